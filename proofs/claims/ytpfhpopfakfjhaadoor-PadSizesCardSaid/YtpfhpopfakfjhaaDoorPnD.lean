/-
  The program's Name.
-/
import Derived.Test.YtpfhpopfakfjhaaDoorPnC
import Derived.Test.YtpfhpopfakfjhaaDoorPaC
namespace Go.Proofs.YtpfhpopfakfjhaaDoor.S10
open Go.RowKit
set_option linter.unusedVariables false
set_option linter.unusedSimpArgs false

set_option maxHeartbeats 2000000 in
theorem nameOk : NameOk := by
  intro s n w hn hl
  have Hn := Lib.hid hn
  have hsz : ({ data := s.toArray } : ByteArray).size = n := by rw [← hn]; rfl
  have HC := Lib.hid (contains_any s n w hn (by omega))
  by_cases g0 : n = 0
  · have hb := Lib.hid (show nameB s = false by unfold nameB; simp [hn, g0])
    have bg : (n : Int) < 1 := by omega
    clear hn
    go_enter Tryd.func10, Tryd.ntmps10
    go_wp2
    go_ret
    rw [hb.out]; exact ⟨rfl, Grown.refl _⟩
  have bg : ¬ (n : Int) < 1 := by omega
  by_cases g1 : 96 < n
  · have hb := Lib.hid (show nameB s = false by unfold nameB; rw [show decide (1 ≤ s.length ∧ s.length ≤ 96) = false by rw [decide_eq_false_iff_not, hn]; omega]; simp)
    have bg1 : 96 < (n : Int) := by omega
    clear hn
    go_enter Tryd.func10, Tryd.ntmps10
    go_wp2
    go_ret
    rw [hb.out]; exact ⟨rfl, Grown.refl _⟩
  have bg1 : ¬ 96 < (n : Int) := by omega
  by_cases e1 : s = [46]
  · subst e1
    obtain rfl : n = 1 := hn.symm
    go_enter Tryd.func10, Tryd.ntmps10
    go_wp2
    go_ret
    exact ⟨rfl, Grown.refl _⟩
  by_cases e2 : s = [46, 46]
  · subst e2
    obtain rfl : n = 2 := hn.symm
    go_enter Tryd.func10, Tryd.ntmps10
    go_wp2
    go_ret
    exact ⟨rfl, Grown.refl _⟩
  have hb := Lib.hid (show nameB s = s.all fitB by
    unfold nameB
    rw [show decide (1 ≤ s.length ∧ s.length ≤ 96) = true by rw [decide_eq_true_eq, hn]; omega, show decide (s ≠ [46]) = true from decide_eq_true e1, show decide (s ≠ [46, 46]) = true from decide_eq_true e2]
    simp)
  have he1 : (s == [46]) = false := beq_eq_false_iff_ne.2 e1
  have he2 : (s == [46, 46]) = false := beq_eq_false_iff_ne.2 e2
  clear hn
  go_enter Tryd.func10, Tryd.ntmps10
  go_wp2_with fail
  refine HC.out.mono ?_
  rintro e w1 ⟨rfl, hg⟩
  go_wp2_with fail
  go_ret
  rw [hb.out]
  exact ⟨by simp, hg⟩
end Go.Proofs.YtpfhpopfakfjhaaDoor.S10
