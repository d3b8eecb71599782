/-
  What the laws of dev ask of the program's devices; law13's awake out of it.
-/
import Derived.Test.YteigfpgdnfladaaDvN
namespace Go.Proofs.Yteigfpgdnfladaa.S13
open Cf
open Go.RowKit
set_option linter.unusedVariables false
set_option linter.unusedSimpArgs false

/-- The slice at A owns the bytes l, in a block of any type from 'base' on. -/
def OwA (w : World) (base : Nat) (A : Option Addr) (c : Nat) (l : List UInt8) : Prop :=
  (A = none ∧ l = [] ∧ c = 0) ∨ ∃ g tt cur, A = some ⟨g, 0, none⟩ ∧ base ≤ g ∧ w.heap[g]? = some (.cells cur tt (0, 0)) ∧ l.length ≤ c ∧ cur.toList.take l.length = bvs l
theorem OwA.nil (w : World) (base : Nat) : OwA w base none 0 [] := .inl ⟨rfl, rfl, rfl⟩
theorem OwA.form {w : World} {base : Nat} {A : Option Addr} {c : Nat} {l : List UInt8} (h : OwA w base A c l) : (A = none ∧ l = [] ∧ c = 0) ∨ ∃ g tt cur, A = some ⟨g, 0, none⟩ ∧ base ≤ g ∧ w.heap[g]? = some (.cells cur tt (0, 0)) ∧ l.length ≤ c ∧ cur.toList.take l.length = bvs l := h
theorem OwA.of {w : World} {base : Nat} {A : Option Addr} {c : Nat} {l : List UInt8} (h : Own w base A c l) : OwA w base A c l := by
  rcases h.form with h | ⟨g, cur, h⟩
  · exact .inl h
  · exact .inr ⟨g, _, cur, h⟩
theorem OwA.rd {w : World} {base : Nat} {A : Option Addr} {c : Nat} {l : List UInt8} (h : OwA w base A c l) : Rd w w.heap.size A l := by
  rcases h with ⟨_, rfl, _⟩ | ⟨g, tt, cur, rfl, _, hg, _, ht⟩
  · exact .inl rfl
  · refine .inr ⟨g, 0, rfl, lt_of_heap hg, fun j hj => ?_⟩
    rw [Nat.zero_add, cell_of_row w g j cur tt (0, 0) hg]
    have : (cur.toList.take l.length)[j]? = (bvs l)[j]? := by rw [ht]
    rw [List.getElem?_take, if_pos hj] at this
    simpa [bvs, hj] using this
theorem OwA.grow {w w' : World} {base : Nat} {A : Option Addr} {c : Nat} {l : List UInt8} (h : OwA w base A c l) (hb : Below w.heap.size w w') : OwA w' base A c l := by
  rcases h with h | ⟨g, tt, cur, h1, h2, h3, r⟩
  · exact .inl h
  · exact .inr ⟨g, tt, cur, h1, h2, (hb.block g (lt_of_heap h3)).trans h3, r⟩
/-- A device of the program in memory: at G, in the blocks F, in the state st. -/
abbrev DTab := World → Nat → (Nat → Prop) → Dv → Prop
/-- It is in the state st' now. -/
def DOn (D : DTab) (w : World) (G : Nat) (F : Nat → Prop) (st' : Dv) (w' : World) : Prop := ∃ F', D w' G F' st' ∧ (∀ k, F' k → F k ∨ w.heap.size ≤ k) ∧ Ch F w w'
structure DevOk (D : DTab) : Prop where
  foot : ∀ w G F st, D w G F st → ∀ k, F k → k < w.heap.size
  keep : ∀ w w' G F st, D w G F st → (∀ k, F k → w'.heap[k]? = w.heap[k]?) → w.heap.size ≤ w'.heap.size → D w' G F st
  new : ∀ w (n : Nat), 1 ≤ n → n ≤ 65536 → Calls Try.prog 8 #[.int .i64 (n : Int)] w fun e w' =>
    ∃ G F, e = .returned (.tuple #[.pointer (some ⟨G, 0, none⟩), .int .i64 0]) ∧ D w' G F (dvNew n) ∧ (∀ k, F k → w.heap.size ≤ k) ∧ Grown w w'
  bad : ∀ w (n : Int), n < 1 ∨ 65536 < n → Calls Try.prog 8 #[.int .i64 n] w fun e w' => e = .returned (.tuple #[.pointer none, .int .i64 2]) ∧ Grown w w'
  size : ∀ w G F st, D w G F st → st.kept.length ≤ 65536 → Calls Try.prog 9 #[.pointer (some ⟨G, 0, none⟩)] w fun e w' => e = .returned (.int .i64 (st.kept.length : Int)) ∧ Grown w w'
  read : ∀ w G F st i (n : Int), D w G F st → Ok st i → i ≤ 1000 → st.kept.length ≤ 100 → Calls Try.prog 13 #[.pointer (some ⟨G, 0, none⟩), .int .i64 n] w fun e w' =>
    ∃ A m c, e = .returned (.tuple #[.slice A m c, .int .i64 (dvRead st n).2.1]) ∧ (dvRead st n).1.length = m ∧ m ≤ c ∧ OwA w' w.heap.size A c (dvRead st n).1 ∧ ∃ F', D w' G F' (dvRead st n).2.2 ∧ (∀ k, F' k → F k ∨ w.heap.size ≤ k) ∧ Ch F w w' ∧ ∀ x, A = some x → ¬ F' x.block
  write : ∀ w G F st i (n : Int) A m c b, D w G F st → Ok st i → i ≤ 1000 → st.kept.length ≤ 100 → Rd w w.heap.size A b → b.length = m → m ≤ c → m ≤ 1000 → (∀ x, A = some x → b ≠ [] → ¬ F x.block) →
    Calls Try.prog 11 #[.pointer (some ⟨G, 0, none⟩), .int .i64 n, .slice A m c] w fun e w' => e = .returned (.int .i64 (dvWrite st n b).1) ∧ DOn D w G F (dvWrite st n b).2 w'
  flush : ∀ w G F st i, D w G F st → Ok st i → i ≤ 1000 → st.kept.length ≤ 100 → Calls Try.prog 15 #[.pointer (some ⟨G, 0, none⟩)] w fun e w' => e = .returned (.int .i64 (dvFlush st).1) ∧ DOn D w G F (dvFlush st).2 w'
  count : ∀ w G F st i, D w G F st → Ok st i → Calls Try.prog 27 #[.pointer (some ⟨G, 0, none⟩)] w fun e w' => e = .returned (.int .i64 st.count) ∧ Grown w w'
  raise : ∀ w G F st i, D w G F st → Ok st i → Calls Try.prog 17 #[.pointer (some ⟨G, 0, none⟩)] w fun e w' => e = .returned (.int .i64 (dvRaise st).1) ∧ DOn D w G F (dvRaise st).2 w'
  wear : ∀ w G F st i (n : Int), D w G F st → Ok st i → -9223372036854775808 ≤ n → n < 9223372036854775808 → Calls Try.prog 19 #[.pointer (some ⟨G, 0, none⟩), .int .i64 n] w fun e w' => e = .returned (.tuple #[]) ∧ DOn D w G F (dvWear st n) w'
  limit : ∀ w G F st i (n : Int), D w G F st → Ok st i → -9223372036854775808 ≤ n → n < 9223372036854775808 → Calls Try.prog 21 #[.pointer (some ⟨G, 0, none⟩), .int .i64 n] w fun e w' => e = .returned (.tuple #[]) ∧ DOn D w G F (dvLimit st n) w'
  crash : ∀ w G F st i A m c keep, D w G F st → Ok st i → i ≤ 1000 → st.kept.length ≤ 100 → RdN w w.heap.size A keep → keep.length = m → m ≤ c → m ≤ 1000 → (∀ x, A = some x → keep ≠ [] → ¬ F x.block) →
    Calls Try.prog 23 #[.pointer (some ⟨G, 0, none⟩), .slice A m c] w fun e w' => e = .returned (.int .i64 (dvCrash st keep).1) ∧ DOn D w G F (dvCrash st keep).2 w'
  tamper : ∀ w G F st i (n : Int) A m c b, D w G F st → Ok st i → i ≤ 1000 → st.kept.length ≤ 100 → Rd w w.heap.size A b → b.length = m → m ≤ c → m ≤ 1000 → (∀ x, A = some x → b ≠ [] → ¬ F x.block) →
    Calls Try.prog 25 #[.pointer (some ⟨G, 0, none⟩), .int .i64 n, .slice A m c] w fun e w' => e = .returned (.int .i64 (dvTamper st n b).1) ∧ DOn D w G F (dvTamper st n b).2 w'
  image : ∀ w G F st i, D w G F st → Ok st i → i ≤ 1000 → st.kept.length ≤ 100 → Calls Try.prog 30 #[.pointer (some ⟨G, 0, none⟩)] w fun e w' =>
    ∃ A m c, e = .returned (.slice A m c) ∧ (image st).length = m ∧ m ≤ c ∧ Rd w' w'.heap.size A (image st) ∧ Grown w w'
  waits : ∀ w G F st i, D w G F st → Ok st i → i ≤ 1000 → Calls Try.prog 28 #[.pointer (some ⟨G, 0, none⟩)] w fun e w' => e = .returned (.int .i64 (st.pend.length : Int)) ∧ Grown w w'
section
variable {D : DTab}
theorem DevOk.grow (K : DevOk D) {w w' : World} {G : Nat} {F : Nat → Prop} {st : Dv} (h : D w G F st) (hg : Grown w w') : D w' G F st :=
  K.keep w w' G F st h (fun k hk => hg.block k (K.foot w G F st h k hk)) hg.size
theorem chSince {F : Nat → Prop} {w0 w w' : World} (hg : Grown w0 w) (h : Ch F w w') (hF : ∀ k, F k → w0.heap.size ≤ k) : Grown w0 w' :=
  ⟨h.os.trans hg.os, h.tape.trans hg.tape, h.output.trans hg.output, Nat.le_trans hg.size h.size, fun k hk => (h.block k (Nat.lt_of_lt_of_le hk hg.size) (fun hf => by have := hF k hf; omega)).trans (hg.block k hk)⟩
/-- The device was made behind w0. -/
def DSince (D : DTab) (w0 w : World) (G : Nat) (F : Nat → Prop) (st : Dv) : Prop := D w G F st ∧ (∀ k, F k → w0.heap.size ≤ k) ∧ Grown w0 w
theorem DSince.grow (K : DevOk D) {w0 w w' : World} {G : Nat} {F : Nat → Prop} {st : Dv} (h : DSince D w0 w G F st) (hg : Grown w w') : DSince D w0 w' G F st := ⟨K.grow h.1 hg, h.2.1, Grown.trans h.2.2 hg⟩
theorem DSince.step {w0 w w' : World} {G : Nat} {F : Nat → Prop} {st st' : Dv} (h : DSince D w0 w G F st) (h1 : DOn D w G F st' w') : ∃ F', DSince D w0 w' G F' st' := by
  obtain ⟨F', ha, hb, hc⟩ := h1
  refine ⟨F', ha, fun k hk => ?_, chSince h.2.2 hc h.2.1⟩
  rcases hb k hk with h4 | h4
  · exact h.2.1 k h4
  · exact Nat.le_trans h.2.2.size h4
end
end Go.Proofs.Yteigfpgdnfladaa.S13
