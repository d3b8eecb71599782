/-
  Contract of base64's Len.
-/
import Derived.Test.YtjpjodjdciamhaaMath
import Derived.Test.YtjpjodjdciamhaaApp
namespace Go.Proofs.Ytjpjodjdciamhaa
open Go.RowKit
set_option linter.unusedVariables false
set_option linter.unusedSimpArgs false

/-- The length of the encoding of m bytes. -/
def lenI (m : Int) : Int := if m < 1 then 0 else m / 3 * 4 + (if m % 3 > 0 then m % 3 + 1 else 0)
set_option maxHeartbeats 2000000 in
theorem len_any (m : Int) (w : World) (hlo : -9223372036854775808 ≤ m) (hhi : m ≤ 4611686018427387904) :
    Calls Try.prog 12 #[.int .i64 m] w fun e w' => e = .returned (.int .i64 (lenI m)) ∧ w = w' := by
  go_enter Try.func12, Try.ntmps12
  by_cases h1 : m < 1
  · have H := Lib.hid (show lenI m = 0 by simp [lenI, h1])
    go_wp2
    go_ret
    exact ⟨by rw [H.out]; rfl, rfl⟩
  · by_cases h3 : m % 3 > 0
    · have H := Lib.hid (show lenI m = m / 3 * 4 + (m % 3 + 1) by simp [lenI, h1, h3])
      go_wp2
      go_ret
      exact ⟨by rw [H.out]; rfl, rfl⟩
    · have H := Lib.hid (show lenI m = m / 3 * 4 by simp [lenI, h1, h3])
      go_wp2
      go_ret
      exact ⟨by rw [H.out]; rfl, rfl⟩
end Go.Proofs.Ytjpjodjdciamhaa
