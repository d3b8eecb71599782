/-
  bytes.Clone (off the shelf), for seats without tape.
-/
import Derived.Test.YthakdjaaknbmpaaMgKactsMain24
import Derived.Test.YthakdjaaknbmpaaMgKactsMain8
namespace Go.Proofs.Ythakdjaaknbmpaa.Cf
open Go.RowKit
set_option linter.unusedVariables false
set_option linter.unusedSimpArgs false
theorem bclone_any (A : Option Addr) (n c : Nat) (l : List UInt8) (w : World) (hl : l.length = n) (hn : n ≤ 100000) (hr : Rd w w.heap.size A l) :
    Calls Try.prog 40 #[.slice A n c] w fun e w' => ∃ A' c', e = .returned (.slice A' n c') ∧ Own w' w.heap.size A' c' l ∧ Grown w w' := by
  subst hl
  cases A with
  | none =>
    have hl0 : l = [] := by
      rcases hr with h | ⟨b, off, e, _⟩
      · exact h
      · cases e
    subst hl0
    refine (Sh.Try.bytes_Clone_nil 0 c w).mono ?_
    rintro e w2 ⟨rfl, hw⟩
    exact ⟨none, 0, rfl, Own.nil _ _, by rw [hw]; exact Grown.refl _⟩
  | some ad =>
    refine (Sh.Try.bytes_Clone_at ad l.length c (l.map fun x => (x.toNat : Int)) w (by simp) (by omega) ?_).mono ?_
    · intro i hi
      rcases hr with h | ⟨b, off, e, hb, hc⟩
      · subst h; simp at hi
      · simp only [Option.some.injEq] at e
        subst e
        have h3 := hc i hi
        have e2 : (⟨b, off, none⟩ : Addr).add i = ⟨b, off + i, none⟩ := by by_cases h0 : i = 0 <;> simp [Addr.add, h0]
        rw [e2, h3]
        simp [bv, List.getD_eq_getElem?_getD, hi]
    · rintro e w2 ⟨v', rfl, ho, hne, hb⟩
      have hv : ∃ A' c', v' = .slice A' l.length c' := by
        rcases ho.2 with ⟨h1, h3⟩ | ⟨g, cap, cur, h1, _⟩
        · exact ⟨none, 0, by rw [h1, h3]⟩
        · exact ⟨some ⟨g, 0, none⟩, cap, h1⟩
      obtain ⟨A', c', rfl⟩ := hv
      refine ⟨A', c', rfl, ?_, hb⟩
      unfold Own
      have e : bvs l = (l.map fun x => (x.toNat : Int)).map (Value.int .u8) := by simp [bvs, bv]
      rw [e]
      exact ho
end Go.Proofs.Ythakdjaaknbmpaa.Cf
