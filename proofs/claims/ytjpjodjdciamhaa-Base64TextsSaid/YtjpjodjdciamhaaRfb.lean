/-
  Contracts of the reference's base64: the sign of a number, Encode, Decode.
-/
import Derived.Test.YtjpjodjdciamhaaApp
import Derived.Test.YtjpjodjdciamhaaInt
import Derived.Test.YtjpjodjdciamhaaGrow
namespace Go.Proofs.Ytjpjodjdciamhaa
open Go.RowKit
set_option linter.unusedVariables false
set_option linter.unusedSimpArgs false

/-- The sign of a number below 64. -/
def sg (n : Nat) : UInt8 := if n < 26 then UInt8.ofNat (65 + n) else if n < 52 then UInt8.ofNat (97 + n - 26) else if n < 62 then UInt8.ofNat (48 + n - 52) else if n = 62 then 45 else 95

/-- 'string([]byte{x})'. -/
theorem conv1 (x : UInt8) (W : World) : (convert 24 9 (.slice (some ⟨W.heap.size, 0, none⟩) 1 1)).run Try.prog (W.alloc (.cells #[.int .u8 (x.toNat : Int)] 5)) = .ok (.string { data := #[x] }) (W.alloc (.cells #[.int .u8 (x.toNat : Int)] 5)) :=
  conv ((Row.new W [x]).rd (Nat.lt_succ_self _)) 1

set_option maxHeartbeats 400000 in
theorem sign_any (n : Nat) (w : World) (hn : n < 64) :
    Calls Try.prog 16 #[.int .i64 (n : Int)] w fun e w' => e = .returned (.string { data := #[sg n] }) ∧ Below w.heap.size w w' := by
  rcases (show n < 26 ∨ (26 ≤ n ∧ n < 52) ∨ (52 ≤ n ∧ n < 62) ∨ n = 62 ∨ n = 63 by omega) with h1 | ⟨h0, h1⟩ | ⟨h0, h1⟩ | rfl | rfl
  · skip
    obtain ⟨x, hx⟩ : ∃ x, x = sg n := ⟨_, rfl⟩
    have hxn : 65 + (n : Int) = (x.toNat : Int) := by rw [hx]; unfold sg; rw [if_pos h1, UInt8.toNat_ofNat']; omega
    have hxl := u8_lt x
    have hcv := fun W : World => conv1 x W
    rw [← hx]
    clear hx
    go_enter Try.func16, Try.ntmps16
    go_wp2
    go_ret
    exact ⟨rfl, alloc_below _ _⟩
  · skip
    obtain ⟨x, hx⟩ : ∃ x, x = sg n := ⟨_, rfl⟩
    have hxn : 97 + (n : Int) - 26 = (x.toNat : Int) := by rw [hx]; unfold sg; rw [if_neg (by omega), if_pos h1, UInt8.toNat_ofNat']; omega
    have hxl := u8_lt x
    have hcv := fun W : World => conv1 x W
    rw [← hx]
    clear hx
    go_enter Try.func16, Try.ntmps16
    go_wp2
    go_ret
    exact ⟨rfl, alloc_below _ _⟩
  · skip
    obtain ⟨x, hx⟩ : ∃ x, x = sg n := ⟨_, rfl⟩
    have hxn : 48 + (n : Int) - 52 = (x.toNat : Int) := by rw [hx]; unfold sg; rw [if_neg (by omega), if_neg (by omega), if_pos h1, UInt8.toNat_ofNat']; omega
    have hxl := u8_lt x
    have hcv := fun W : World => conv1 x W
    rw [← hx]
    clear hx
    go_enter Try.func16, Try.ntmps16
    go_wp2
    go_ret
    exact ⟨rfl, alloc_below _ _⟩
  · skip
    have hx : sg 62 = 45 := by decide
    rw [hx]
    go_enter Try.func16, Try.ntmps16
    go_wp2
    go_ret
    exact ⟨rfl, Below.refl _ _⟩
  · have hx : sg 63 = 95 := by decide
    rw [hx]
    go_enter Try.func16, Try.ntmps16
    go_wp2
    go_ret
    exact ⟨rfl, Below.refl _ _⟩
end Go.Proofs.Ytjpjodjdciamhaa
