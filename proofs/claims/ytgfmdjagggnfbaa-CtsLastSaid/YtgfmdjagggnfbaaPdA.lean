/-
  Contracts of the program's double, RotateLeft8 and scatter.
-/
import Derived.Test.YtgfmdjagggnfbaaBase
import Derived.Test.YtgfmdjagggnfbaaMath
import Derived.Test.YtgfmdjagggnfbaaAeS
import Derived.Test.YtgfmdjagggnfbaaAeL
namespace Go.Proofs.Ytgfmdjagggnfbaa.S7
open Go.RowKit
set_option linter.unusedVariables false
set_option linter.unusedSimpArgs false

set_option maxRecDepth 100000 in
theorem dbl_num : ∀ x : UInt8, bits .xor .u8 ((x.toNat : Int) * 2 % 256) ((x.toNat : Int) / 128 * 27 % 256) = ((dbl x).toNat : Int) := allU (by decide +kernel)
set_option maxHeartbeats 1000000 in
theorem double_any (x : UInt8) (w : World) : Calls Try.prog 23 #[.int .u8 (x.toNat : Int)] w fun e w' => e = .returned (.int .u8 ((dbl x).toNat : Int)) ∧ w' = w := by
  have h := Lib.hid (dbl_num x)
  go_enter Try.func23, Try.ntmps23
  go_wp2
  go_ret
  refine ⟨?_, rfl⟩
  rw [← h.out]
  rfl
theorem xor_u8 (a b : UInt8) : bits .xor .u8 (a.toNat : Int) (b.toNat : Int) = ((a ^^^ b).toNat : Int) := by
  have ha := u8_lt a
  have hb := u8_lt b
  have hx : a.toNat ^^^ b.toNat < 2 ^ 8 := Nat.xor_lt_two_pow (by omega) (by omega)
  rw [UInt8.toNat_xor]
  show IntKind.u8.wrap ((BitVec.ofInt 8 (a.toNat : Int) ^^^ BitVec.ofInt 8 (b.toNat : Int)).toNat : Int) = _
  rw [BitVec.toNat_xor, BitVec.toNat_ofInt, BitVec.toNat_ofInt, IntKind.wrap_u8]
  rw [show ((a.toNat : Int) % (2 ^ 8 : Nat)).toNat = a.toNat by omega, show ((b.toNat : Int) % (2 ^ 8 : Nat)).toNat = b.toNat by omega]
  omega
/-- A byte rotated left by k. -/
def rlB (x : UInt8) (k : Nat) : UInt8 := UInt8.ofNat (x.toNat * 2 ^ k % 256 ||| x.toNat / 2 ^ (8 - k))
set_option maxRecDepth 100000 in
theorem rl_num : ∀ k : Fin 8, ∀ x : UInt8, bits .or .u8 ((x.toNat : Int) * 2 ^ k.val % 256) ((x.toNat : Int) / 2 ^ (8 - k.val)) = ((rlB x k.val).toNat : Int) := by
  intro k
  exact allU (by revert k; decide +kernel)
theorem and7 : ∀ n : Fin 8, bits .and .u64 (n.val : Int) 7 = (n.val : Int) := by decide +kernel
set_option maxHeartbeats 1000000 in
theorem rot_any (x : UInt8) (k : Nat) (hk : k < 8) (w : World) : Calls Try.prog 33 #[.int .u8 (x.toNat : Int), .int .i64 (k : Int)] w fun e w' => e = .returned (.int .u8 ((rlB x k).toNat : Int)) ∧ w' = w := by
  have h := Lib.hid (rl_num ⟨k, hk⟩ x)
  have ha := and7 ⟨k, hk⟩
  have hw : IntKind.u64.wrap (k : Int) = (k : Int) := by rw [IntKind.wrap_u64]; omega
  go_enter Try.func33, Try.ntmps33
  go_wp2
  go_ret
  refine ⟨?_, rfl⟩
  rw [← h.out]
  rfl
/-- The sum that scatter takes: after k rotations. -/
def scT (b : UInt8) : Nat → UInt8
  | 0 => b ^^^ 99
  | k + 1 => scT b k ^^^ rlB b (k + 1)
def scB (b : UInt8) : UInt8 := scT b 4
set_option maxHeartbeats 1000000 in
theorem scatter_any (b : UInt8) (w : World) : Calls Try.prog 24 #[.int .u8 (b.toNat : Int)] w fun e w' => e = .returned (.int .u8 ((scB b).toNat : Int)) ∧ w' = w := by
  have h0 : bits .xor .u8 (b.toNat : Int) 99 = ((b ^^^ 99).toNat : Int) := xor_u8 b 99
  go_enter Try.func24, Try.ntmps24
  go_wp2
  go_loopw [3, 4] (fun v3 v4 wr => ∃ (k : Nat) (s : UInt8), v3 = .int .u8 (s.toNat : Int) ∧ v4 = .int .i64 ((k + 1 : Nat) : Int) ∧ k ≤ 4 ∧ Hid (s = scT b k) ∧ Hid (wr = w)) (fun _ v4 _ => 5 - (intOf v4).toNat)
  case atStart => exact ⟨0, b ^^^ 99, rfl, rfl, by omega, rfl, rfl⟩
  case round =>
    obtain ⟨k, s, rfl, rfl, hk, Hs, Hw⟩ := hrel
    obtain ⟨k1, hk1⟩ : ∃ k1, k1 = k + 1 := ⟨_, rfl⟩
    rw [← hk1]
    by_cases hlt : k < 4
    · obtain ⟨r, hr⟩ : ∃ r, r = rlB b k1 := ⟨_, rfl⟩
      obtain ⟨z, hz⟩ : ∃ z, z = s ^^^ r := ⟨_, rfl⟩
      have hx : bits .xor .u8 (s.toNat : Int) (r.toNat : Int) = (z.toNat : Int) := by rw [hz]; exact xor_u8 s r
      have HZ := Lib.hid (show z = scT b (k + 1) by rw [hz, hr, Hs.out, hk1]; rfl)
      have HC := Lib.hid (show Calls Try.prog 33 #[.int .u8 (b.toNat : Int), .int .i64 (k1 : Int)] wr (fun e w' => e = .returned (.int .u8 (r.toNat : Int)) ∧ w' = wr) by rw [hr]; exact rot_any b k1 (by omega) wr)
      have hb4 : (k1 : Int) ≤ 4 := by omega
      have HK1 := Lib.hid hk1
      clear hz hr hk1
      go_wp2_with fail
      refine HC.out.mono ?_
      rintro e w2 ⟨rfl, rfl⟩
      go_wp2
      go_roundw
      case rel => exact ⟨k + 1, z, by go_num, (by rw [← HK1.out]; go_num), by omega, HZ.out, Hw.out⟩
      case measure => simp [intOf]; omega
    · have HT := Lib.hid (show s = scB b by rw [Hs.out, show k = 4 by omega]; rfl)
      have hb4 : ¬ (k1 : Int) ≤ 4 := by omega
      clear hk1
      go_wp2
      go_ret
      exact ⟨by rw [← HT.out]; rfl, Hw.out⟩
end Go.Proofs.Ytgfmdjagggnfbaa.S7
