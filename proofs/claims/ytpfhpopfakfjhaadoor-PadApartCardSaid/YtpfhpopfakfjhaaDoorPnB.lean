/-
  A range over a text of any octets, where no rune that is no ASCII hides an octet that is; Go's iterator in a world that grows.
-/
import Derived.Test.YtpfhpopfakfjhaaDoorPnA
namespace Go.Proofs.YtpfhpopfakfjhaaDoor.S10
open Go.RowKit
set_option linter.unusedVariables false
set_option linter.unusedSimpArgs false

theorem dec_key (s : ByteArray) (pos : Nat) (ha : 128 ≤ (s.get! (pos + 0)).toNat) : (Utf8.decode s pos).2 = 1 ∨ ((Utf8.decode s pos).2 = 2 ∧ 128 ≤ (s.get! (pos + 1)).toNat) ∨ ((Utf8.decode s pos).2 = 3 ∧ 128 ≤ (s.get! (pos + 1)).toNat ∧ 128 ≤ (s.get! (pos + 2)).toNat) ∨ ((Utf8.decode s pos).2 = 4 ∧ 128 ≤ (s.get! (pos + 1)).toNat ∧ 128 ≤ (s.get! (pos + 2)).toNat ∧ 128 ≤ (s.get! (pos + 3)).toNat) := by
  have hn : ¬ (s.get! (pos + 0)).toNat < 128 := by omega
  simp only [Utf8.decode, if_neg hn]
  repeat' split
  all_goals simp_all
  all_goals omega

/-- Where a rune that is no ASCII begins, none of its octets is ASCII. -/
theorem dec_wide (s : ByteArray) (pos : Nat) (ha : 128 ≤ (s.get! pos).toNat) (j : Nat) (h1 : pos ≤ j) (h2 : j < pos + (Utf8.decode s pos).2) : 128 ≤ (s.get! j).toNat := by
  have hk := dec_key s pos ha
  rcases hk with hk | ⟨hk, k1⟩ | ⟨hk, k1, k2⟩ | ⟨hk, k1, k2, k3⟩
  · have : j = pos := by omega
    subst this; exact ha
  · rcases (show j = pos ∨ j = pos + 1 by omega) with rfl | rfl <;> assumption
  · rcases (show j = pos ∨ j = pos + 1 ∨ j = pos + 2 by omega) with rfl | rfl | rfl <;> assumption
  · rcases (show j = pos ∨ j = pos + 1 ∨ j = pos + 2 ∨ j = pos + 3 by omega) with rfl | rfl | rfl | rfl <;> assumption

theorem get_list (l : List UInt8) (j : Nat) (h : j < l.length) : ({ data := l.toArray } : ByteArray).get! j = l[j] := by
  simp [ByteArray.get!, h]
theorem fit_high (c : UInt8) (h : 128 ≤ c.toNat) : fitB c = true := by
  simp only [fitB, decide_eq_true_eq]
  refine ⟨fun e => ?_, fun e => ?_⟩ <;> (subst e; simp at h)
/-- No octet before place p keeps the text from being a name. -/
def Free (l : List UInt8) (p : Nat) : Prop := ∀ j (h : j < l.length), j < p → fitB l[j] = true
theorem Free.zero (l : List UInt8) : Free l 0 := fun _ _ h => absurd h (Nat.not_lt_zero _)
theorem Free.one {l : List UInt8} {p : Nat} (h : Free l p) (hp : p < l.length) (hf : fitB l[p] = true) : Free l (p + 1) := fun j hj hjp => by
  rcases (show j < p ∨ j = p by omega) with h1 | rfl
  · exact h j hj h1
  · exact hf
theorem Free.wide {l : List UInt8} {p : Nat} (h : Free l p) (hp : p < l.length) (ha : 128 ≤ l[p].toNat) : Free l (p + (Utf8.decode { data := l.toArray } p).2) := fun j hj hjp => by
  by_cases h1 : j < p
  · exact h j hj h1
  · have := dec_wide { data := l.toArray } p (by rw [get_list l p hp]; exact ha) j (by omega) hjp
    rw [get_list l j hj] at this
    exact fit_high _ this
theorem Free.all {l : List UInt8} {p : Nat} (h : Free l p) (hp : l.length ≤ p) : l.all fitB = true := by
  rw [List.all_eq_true]
  intro c hc
  obtain ⟨j, hj, rfl⟩ := List.getElem_of_mem hc
  exact h j hj (by omega)
theorem unfree {l : List UInt8} {p : Nat} (hp : p < l.length) (hf : fitB l[p] = false) : l.all fitB = false := by
  rw [List.all_eq_false]
  exact ⟨l[p], List.getElem_mem _, by simp [hf]⟩

/-- The world with block b turned into o. -/
def turn (V : World) (b : Nat) (o : Obj) : World := { V with heap := V.heap.setIfInBounds b o }
theorem turn_at {V : World} {b : Nat} {o : Obj} (hb : b < V.heap.size) : (turn V b o).heap[b]? = some o := by simp [turn, hb]
theorem turn_size {V : World} {b : Nat} {o : Obj} : (turn V b o).heap.size = V.heap.size := by simp [turn]
theorem turn_grown {w V : World} {b : Nat} {o : Obj} (h : Grown w V) (hb : w.heap.size ≤ b) : Grown w (turn V b o) :=
  ⟨h.os, h.tape, h.output, by rw [turn_size]; exact h.size, fun k hk => by
    have e : (turn V b o).heap[k]? = V.heap[k]? := by
      simp only [turn, Array.getElem?_setIfInBounds, if_neg (show ¬ b = k by omega)]
    rw [e]; exact h.block k hk⟩
theorem next_any {V : World} {b : Nat} {s : ByteArray} {p : Nat} (hb : V.heap[b]? = some (.stringIter s p)) (h : p < s.size) (ty : TypeId) :
    (Instr.next (.pointer (some ⟨b, 0, none⟩)) true ty).run Tryd.prog V = .ok (.tuple #[.bool true, .int .i64 p, .int .i32 (Utf8.decode s p).1]) (turn V b (.stringIter s (p + (Utf8.decode s p).2))) := by
  simp only [Instr.next, getObj, setObj, Sem.run_bind, Sem.run, hb, Result.andThen, h, if_true]
  simp [goInt, turn, Sem.run, hb]
theorem next_end {V : World} {b : Nat} {s : ByteArray} {p : Nat} (hb : V.heap[b]? = some (.stringIter s p)) (h : ¬ p < s.size) (ty : TypeId) :
    (Instr.next (.pointer (some ⟨b, 0, none⟩)) true ty).run Tryd.prog V = .ok (.tuple #[.bool false]) V := by
  simp [Instr.next, getObj, Sem.run, hb, h]
def posOf (V : World) (b : Nat) : Nat := match V.heap[b]? with | some (.stringIter _ p) => p | _ => 0
theorem posOf_at {V : World} {b : Nat} {s : ByteArray} {p : Nat} (hb : V.heap[b]? = some (.stringIter s p)) : posOf V b = p := by simp [posOf, hb]

/-- Is the octet among the two? -/
theorem among (c : UInt8) : (0 ≤ Lib.indexByte [0, 47] c) ↔ fitB c = false := by
  simp only [Lib.indexByte, fitB]
  by_cases h0 : c = 0
  · subst h0; simp
  · by_cases h1 : c = 47
    · subst h1; simp
    · simp [h0, h1, Ne.symm h0, Ne.symm h1]
theorem among_any : ∀ l : List UInt8, (0 ≤ Lib.indexAny l [0, 47]) ↔ l.all fitB = false
  | [] => by simp [Lib.indexAny]
  | c :: l => by
    have ih := among_any l
    have hge := Lib.indexAny_ge [0, 47] l
    rw [Lib.indexAny, List.all_cons]
    by_cases hc : fitB c = true
    · have h2 : ([0, 47] : List UInt8).contains c = false := by
        simp only [fitB, decide_eq_true_eq] at hc
        simp [hc.1, hc.2]
      rw [h2, hc]
      simp only [Bool.false_eq_true, if_false, Bool.true_and, ← ih, beq_iff_eq]
      split <;> omega
    · have hc : fitB c = false := by simpa using hc
      have h2 : ([0, 47] : List UInt8).contains c = true := by
        simp only [fitB, decide_eq_false_iff_not, not_and, Classical.not_not] at hc
        by_cases h0 : c = 0
        · simp [h0]
        · simp [hc h0]
      rw [h2, hc]
      simp
end Go.Proofs.YtpfhpopfakfjhaaDoor.S10
