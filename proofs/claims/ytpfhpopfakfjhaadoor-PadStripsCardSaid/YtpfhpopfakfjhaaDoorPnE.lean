/-
  The program's units and sizes.
-/
import Derived.Test.YtpfhpopfakfjhaaDoorPaC
namespace Go.Proofs.YtpfhpopfakfjhaaDoor.S10
open Go.RowKit
set_option linter.unusedVariables false
set_option linter.unusedSimpArgs false

def unitB (u : Int) : Bool := decide (u = 16 ∨ u = 32)

theorem ix0 (V : World) : (Instr.index 41 (.agg #[.int .i64 16, .int .i64 32]) (.int .i64 0)).run Tryd.prog V = .ok (.int .i64 16) V := by kernel_rfl
theorem ix1 (V : World) : (Instr.index 41 (.agg #[.int .i64 16, .int .i64 32]) (.int .i64 1)).run Tryd.prog V = .ok (.int .i64 32) V := by kernel_rfl

set_option maxHeartbeats 2000000 in
theorem unit_any (u : Int) (w : World) (hU : Un w) (h1 : -9223372036854775808 ≤ u) (h2 : u < 9223372036854775808) :
    Calls Tryd.prog 16 #[.int .i64 u] w fun e w' => e = .returned (.bool (unitB u)) ∧ w' = w := by
  obtain ⟨hc0, hc1⟩ := hU
  have x0 := ix0
  have x1 := ix1
  go_enter Tryd.func16, Tryd.ntmps16
  go_wp2_with fail
  clear hc0 hc1
  go_loopw [6] (fun i wr => wr = w ∧ ∃ k : Nat, i = .int .i64 k ∧ Hid (k = 0 ∨ (k = 1 ∧ u ≠ 16) ∨ (k = 2 ∧ u ≠ 16 ∧ u ≠ 32))) (fun i _ => 2 - (intOf i).toNat)
  case atStart => exact ⟨rfl, 0, rfl, .inl rfl⟩
  case round =>
    obtain ⟨rfl, k, rfl, hk⟩ := hrel
    rcases hk with rfl | ⟨rfl, h16⟩ | ⟨rfl, h16, h32⟩
    · by_cases h : u = 16
      · subst h
        go_wp2
        go_ret
        exact ⟨rfl, rfl⟩
      · have hb : ((16 : Int) == u) = false := beq_eq_false_iff_ne.2 (fun e => h e.symm)
        go_wp2
        go_roundw
        case rel => exact ⟨trivial, 1, by go_num, .inr (.inl ⟨rfl, h⟩)⟩
        case measure => simp [intOf]
    · by_cases h : u = 32
      · subst h
        go_wp2
        go_ret
        exact ⟨rfl, rfl⟩
      · have hb : ((32 : Int) == u) = false := beq_eq_false_iff_ne.2 (fun e => h e.symm)
        go_wp2
        go_roundw
        case rel => exact ⟨trivial, 2, by go_num, .inr (.inr ⟨rfl, h16, h⟩)⟩
        case measure => simp [intOf]
    · have hb : unitB u = false := decide_eq_false (by omega)
      go_wp2
      go_ret
      rw [hb]
      exact ⟨rfl, rfl⟩

set_option maxHeartbeats 2000000 in
theorem sizeOk : SizeOk := by
  intro n u w hn1 hn2 hu1 hu2 hU
  have HC := Lib.hid (unit_any u w hU hu1 hu2)
  by_cases g0 : n < 1
  · have hb := Lib.hid (show sizeI n u = 0 by unfold sizeI; rw [if_neg (by omega)])
    go_enter Tryd.func12, Tryd.ntmps12
    go_wp2
    go_ret
    rw [hb.out]; exact ⟨rfl, Grown.refl _⟩
  by_cases g1 : 96 < n
  · have hb := Lib.hid (show sizeI n u = 0 by unfold sizeI; rw [if_neg (by omega)])
    go_enter Tryd.func12, Tryd.ntmps12
    go_wp2
    go_ret
    rw [hb.out]; exact ⟨rfl, Grown.refl _⟩
  cases hq : unitB u with
  | false =>
    have hb := Lib.hid (show sizeI n u = 0 by
      have := of_decide_eq_false hq
      unfold sizeI; rw [if_neg (by omega)])
    rw [hq] at HC
    go_enter Tryd.func12, Tryd.ntmps12
    go_wp2_with fail
    refine HC.out.mono ?_
    rintro e w1 ⟨rfl, rfl⟩
    go_wp2
    go_ret
    rw [hb.out]; exact ⟨rfl, Grown.refl _⟩
  | true =>
    rw [hq] at HC
    obtain ⟨m, rfl⟩ : ∃ m : Nat, n = m := ⟨n.toNat, by omega⟩
    rcases of_decide_eq_true hq with rfl | rfl
    · have hb := Lib.hid (show sizeI m 16 = ((m + 15) / 16 * 16 : Int) by unfold sizeI upN; rw [if_pos (by omega)]; simp; try omega)
      have hg : ¬ (m : Int) < 1 := by omega
      go_enter Tryd.func12, Tryd.ntmps12
      go_wp2_with fail
      refine HC.out.mono ?_
      rintro e w1 ⟨rfl, rfl⟩
      go_wp2_with fail
      go_ret
      refine ⟨?_, Grown.refl _⟩
      rw [hb.out]
      show Ending.returned (Value.int IntKind.i64 (((m : Int) + 16 - 1) / 16 * 16)) = _
      rw [show (m : Int) + 16 - 1 = m + 15 by omega]
    · have hb := Lib.hid (show sizeI m 32 = ((m + 31) / 32 * 32 : Int) by unfold sizeI upN; rw [if_pos (by omega)]; simp; try omega)
      have hg : ¬ (m : Int) < 1 := by omega
      go_enter Tryd.func12, Tryd.ntmps12
      go_wp2_with fail
      refine HC.out.mono ?_
      rintro e w1 ⟨rfl, rfl⟩
      go_wp2_with fail
      go_ret
      refine ⟨?_, Grown.refl _⟩
      rw [hb.out]
      show Ending.returned (Value.int IntKind.i64 (((m : Int) + 32 - 1) / 32 * 32)) = _
      rw [show (m : Int) + 32 - 1 = m + 31 by omega]
end Go.Proofs.YtpfhpopfakfjhaaDoor.S10
