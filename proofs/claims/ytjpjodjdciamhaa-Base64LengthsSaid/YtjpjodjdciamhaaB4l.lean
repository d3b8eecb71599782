/-
  The walk of Base64Lengths.
-/
import Derived.Test.YtjpjodjdciamhaaAw2
namespace Go.Proofs.Ytjpjodjdciamhaa
open Go.RowKit
set_option linter.unusedVariables false
set_option linter.unusedSimpArgs false

theorem lenI_facts (n : Int) (h0 : 0 ≤ n) : lenI (n + 3) = lenI n + 4 ∧ lenI n < lenI (n + 1) ∧ n ≤ lenI n ∧ lenI n ≤ 2 * n := by
  unfold lenI
  refine ⟨?_, ?_, ?_, ?_⟩ <;> (repeat' split) <;> omega
set_option maxHeartbeats 1000000 in
theorem lengths_walk (n : Int) (w : World) (hlo : -9223372036854775808 ≤ n) (hhi : n ≤ 9223372036854775807) :
    Calls Try.prog 6 #[.int .i64 n] w (Says w true) := by
  go_enter Try.func6, Try.ntmps6
  go_wp2_with fail
  refine (awake2 _).mono ?_
  rintro e w1 ⟨rfl, hb1⟩
  have Hb1 := Lib.hid hb1
  clear hb1
  by_cases hin : 0 ≤ n ∧ n ≤ 1152921504606846976
  · obtain ⟨h0, h1⟩ := hin
    obtain ⟨a, ha⟩ : ∃ a, a = lenI n := ⟨_, rfl⟩
    obtain ⟨b, hb⟩ : ∃ b, b = lenI (n + 1) := ⟨_, rfl⟩
    obtain ⟨f1, f2, f3, f4⟩ := lenI_facts n h0
    obtain ⟨g1, g2, g3, g4⟩ := lenI_facts (n + 1) (by omega)
    rw [← ha] at f1 f2 f3 f4
    rw [← hb] at f2 g3 g4
    clear g1 g2
    have Hf1 := Lib.hid f1
    have Ha := Lib.hid ha
    have Hb := Lib.hid hb
    clear f1 ha hb
    go_wp2_with fail
    refine (len_any (n + 3) _ (by omega) (by omega)).mono ?_
    rintro e w2 ⟨rfl, rfl⟩
    rw [Hf1.out]
    go_wp2_with fail
    refine (len_any n _ (by omega) (by omega)).mono ?_
    rintro e w2 ⟨rfl, rfl⟩
    rw [← Ha.out]
    go_wp2_with fail
    refine (len_any (n + 1) _ (by omega) (by omega)).mono ?_
    rintro e w2 ⟨rfl, rfl⟩
    rw [← Hb.out]
    go_wp2_with fail
    refine (len_any n _ (by omega) (by omega)).mono ?_
    rintro e w2 ⟨rfl, rfl⟩
    rw [← Ha.out]
    go_wp2_with fail
    refine (len_any n _ (by omega) (by omega)).mono ?_
    rintro e w2 ⟨rfl, rfl⟩
    rw [← Ha.out]
    go_wp2
    go_ret
    exact ⟨rfl, Hb1.out⟩
  · by_cases h0 : n < 0
    · go_wp2_with fail
      refine (awake2 _).mono ?_
      rintro e w2 ⟨rfl, hb2⟩
      have Hb2 := Lib.hid hb2
      clear hb2
      go_wp2
      go_ret
      exact ⟨rfl, Grown.trans (show Grown w w1 from Hb1.out) (show Grown w1 w2 from Hb2.out)⟩
    · have h1 : 1152921504606846976 < n := by omega
      go_wp2_with fail
      refine (awake2 _).mono ?_
      rintro e w2 ⟨rfl, hb2⟩
      have Hb2 := Lib.hid hb2
      clear hb2
      go_wp2
      go_ret
      exact ⟨rfl, Grown.trans (show Grown w w1 from Hb1.out) (show Grown w1 w2 from Hb2.out)⟩
end Go.Proofs.Ytjpjodjdciamhaa
