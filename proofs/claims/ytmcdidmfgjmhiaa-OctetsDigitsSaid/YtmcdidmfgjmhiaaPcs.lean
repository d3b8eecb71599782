/-
  Contracts of the reference's Pieces (at equal lists) and of Hex.
-/
import Derived.Test.YtmcdidmfgjmhiaaCut
namespace Go.Proofs.Ytmcdidmfgjmhiaa
open Go.RowKit
set_option linter.unusedVariables false

theorem below_drewN {B : Nat} {a w : World} (h : Below B a w) (n : Nat) : Below B a (w.drewN n) := ⟨h.os, h.tape, h.output, h.size, h.block⟩

/-- The slice at A reads as the pieces ls. -/
def RdL (w : World) (B : Nat) (A : Option Addr) (ls : List (List UInt8)) : Prop :=
  ls = [] ∨ ∃ b off, A = some ⟨b, off, none⟩ ∧ b < B ∧ ∀ j (h : j < ls.length), ∃ A' c', w.cell? ⟨b, off + j, none⟩ = some (.slice A' ls[j].length c') ∧ ls[j].length ≤ c' ∧ Rd w B A' ls[j]
theorem OwnL.rd {w : World} {base : Nat} {A : Option Addr} {c : Nat} {ls : List (List UInt8)} (h : OwnL w base A c ls) : RdL w w.heap.size A ls := by
  obtain ⟨vs, h1, h2, h3⟩ := h
  rcases h2.2 with ⟨h4, h5⟩ | ⟨g, cap, cur, h4, h5, h6, h7, h8, h9, h10⟩
  · exact .inl (List.eq_nil_of_length_eq_zero h5)
  · simp only [Value.slice.injEq] at h4
    obtain ⟨rfl, _, rfl⟩ := h4
    refine .inr ⟨g, 0, rfl, lt_of_heap h6, fun j hj => ?_⟩
    obtain ⟨A', c', e, ho⟩ := h3 j hj (by omega)
    refine ⟨A', c', ?_, ho.le, ho.rd⟩
    rw [Nat.zero_add, h2.cellAt j (by omega), List.getElem?_eq_getElem (by omega), e]
theorem RdL.keep {w w' : World} {B : Nat} {A : Option Addr} {ls : List (List UInt8)} (h : RdL w B A ls) (hb : Below B w w') : RdL w' B A ls := by
  rcases h with h | ⟨b, off, e, hbB, hc⟩
  · exact .inl h
  · refine .inr ⟨b, off, e, hbB, fun j hj => ?_⟩
    obtain ⟨A', c', h1, h2, h3⟩ := hc j hj
    exact ⟨A', c', (hb.cell (p := ⟨b, off + j, none⟩) hbB).trans h1, h2, h3.below hb⟩
theorem RdL.more {w : World} {B B' : Nat} {A : Option Addr} {ls : List (List UInt8)} (h : RdL w B A ls) (hB : B ≤ B') : RdL w B' A ls := by
  rcases h with h | ⟨b, off, e, hbB, hc⟩
  · exact .inl h
  · refine .inr ⟨b, off, e, by omega, fun j hj => ?_⟩
    obtain ⟨A', c', h1, h2, h3⟩ := hc j hj
    exact ⟨A', c', h1, h2, h3.more hB⟩
theorem RdL.at_ {w : World} {B : Nat} {A : Option Addr} {ls : List (List UInt8)} (h : RdL w B A ls) {k : Nat} (hk : k < ls.length) :
    ∃ b off A' c', A = some ⟨b, off, none⟩ ∧ b < B ∧ w.cell? ⟨b, off + k, none⟩ = some (.slice A' ls[k].length c') ∧ ls[k].length ≤ c' ∧ Rd w B A' ls[k] := by
  rcases h with rfl | ⟨b, off, e, hb, hc⟩
  · simp at hk
  · obtain ⟨A', c', h1, h2, h3⟩ := hc k hk
    exact ⟨b, off, A', c', e, hb, h1, h2, h3⟩

def Says (w : World) (b : Bool) (e : Ending) (w' : World) : Prop := e = .returned (.bool b) ∧ Below w.heap.size w w'

set_option maxHeartbeats 1000000 in
theorem pieces_same (A1 A2 : Option Addr) (n1 c1 n2 c2 : Nat) (ls : List (List UInt8)) (w : World) (h1 : RdL w w.heap.size A1 ls) (h2 : RdL w w.heap.size A2 ls) (hn1 : ls.length = n1) (hn2 : ls.length = n2) (hl : ls.length ≤ 1000000) :
    Calls Try.prog 18 #[.slice A1 n1 c1, .slice A2 n2 c2] w (Says w true) := by
  subst hn1 hn2
  go_enter Try.func18, Try.ntmps18
  go_wp2
  go_loopw [5] (fun i wr => ∃ k : Nat, k ≤ ls.length ∧ i = .int .i64 k ∧ Below w.heap.size w wr) (fun i _ => ls.length - (intOf i).toNat)
  case atStart => exact ⟨0, by omega, rfl, Below.refl _ _⟩
  case round =>
    obtain ⟨k, hk, rfl, hb⟩ := hrel
    have Hb := Lib.hid hb
    clear hb
    by_cases hlt : k < ls.length
    · obtain ⟨b1, o1, B1, d1, rfl, hb1, hc1, hd1, hr1⟩ := (h1.keep Hb.out).at_ hlt
      obtain ⟨b2, o2, B2, d2, rfl, hb2, hc2, hd2, hr2⟩ := (h2.keep Hb.out).at_ hlt
      have cv1 : ∀ q, (convert 22 9 (.slice B1 ls[k].length d1)).run Try.prog (wr.drewN q) = .ok (.string ⟨ls[k].toArray⟩) (wr.drewN q) := fun q => conv (w := wr.drewN q) hr1 d1
      have cv2 : ∀ q, (convert 22 9 (.slice B2 ls[k].length d2)).run Try.prog (wr.drewN q) = .ok (.string ⟨ls[k].toArray⟩) (wr.drewN q) := fun q => conv (w := wr.drewN q) hr2 d2
      clear h1 h2 hr1 hr2 hd1 hd2
      go_wp2
      go_quiet (fail)
      clear cv1 cv2
      go_wp2
      go_roundw
      case rel => exact ⟨k + 1, by omega, by go_num, below_drewN Hb.out _⟩
      case measure => simp [intOf]; omega
    · go_wp2
      go_ret
      exact ⟨rfl, Hb.out⟩

end Go.Proofs.Ytmcdidmfgjmhiaa
