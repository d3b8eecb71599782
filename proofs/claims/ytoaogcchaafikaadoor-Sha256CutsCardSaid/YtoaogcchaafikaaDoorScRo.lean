/-
  Contracts of the program's rotr and of the four mixes.
-/
import Derived.Test.YtoaogcchaafikaaDoorSaRo
namespace Go.Proofs.YtoaogcchaafikaaDoor.S3
open Go.RowKit
set_option linter.unusedVariables false
set_option linter.unusedSimpArgs false

theorem and31 : ∀ n : Fin 32, 1 ≤ n.val → bits .and .u64 (18446744073709551616 - (n.val : Int)) 31 = ((32 - n.val : Nat) : Int) := by decide +kernel
theorem wo_comm (x y : UInt32) : wo x y = wo y x := by unfold wo; exact UInt32.or_comm x y

set_option maxHeartbeats 1000000 in
theorem rotl_any (x : UInt32) (n : Nat) (w : World) (h1 : 1 ≤ n) (h2 : n < 32) :
    Calls Tryd.prog 25 #[.int .u32 (x.toNat : Int), .int .i64 (-(n : Int))] w fun e w' => e = .returned (.int .u32 ((rr x n).toNat : Int)) ∧ w = w' := by
  have hw : IntKind.u64.wrap (-(n : Int)) = 18446744073709551616 - (n : Int) := by rw [IntKind.wrap_u64]; omega
  have ha : bits .and .u64 (18446744073709551616 - (n : Int)) 31 = ((32 - n : Nat) : Int) := and31 ⟨n, h2⟩ h1
  go_enter Tryd.func25, Tryd.ntmps25
  go_wp2
  go_ret
  refine ⟨?_, rfl⟩
  show Ending.returned (Value.int .u32 (bits .or .u32 ((x.toNat : Int) * 2 ^ (32 - n) % 4294967296) ((x.toNat : Int) / 2 ^ (32 - (32 - n))))) = _
  rw [show 32 - (32 - n) = n by omega, i_sr, ← IntKind.wrap_u32, i_sl, i_or, wo_comm]
  rfl

theorem drotr_any (x : UInt32) (n : Nat) (w : World) (h1 : 1 ≤ n) (h2 : n < 32) :
    Calls Tryd.prog 24 #[.int .u32 (x.toNat : Int), .int .i64 (n : Int)] w fun e w' => e = .returned (.int .u32 ((rr x n).toNat : Int)) ∧ w = w' := by
  go_enter Tryd.func24, Tryd.ntmps24
  go_wp2_with ((with_reducible refine (rotl_any _ n _ h1 h2).mono ?_); rintro e w' ⟨rfl, rfl⟩)
  go_ret
  exact ⟨rfl, rfl⟩

set_option maxHeartbeats 1000000 in
theorem mixE_any (x : UInt32) (w : World) :
    Calls Tryd.prog 20 #[.int .u32 (x.toNat : Int)] w fun e w' => e = .returned (.int .u32 ((S1 x).toNat : Int)) ∧ w = w' := by
  go_enter Tryd.func20, Tryd.ntmps20
  go_wp2_with fail
  refine (drotr_any x 6 _ (by omega) (by omega)).mono ?_
  rintro e w' ⟨rfl, rfl⟩
  obtain ⟨x1, hx1⟩ : ∃ x1, x1 = rr x 6 := ⟨_, rfl⟩
  rw [← hx1]
  have Hx1 := Lib.hid hx1
  clear hx1
  go_wp2_with fail
  refine (drotr_any x 11 _ (by omega) (by omega)).mono ?_
  rintro e w' ⟨rfl, rfl⟩
  obtain ⟨x2, hx2⟩ : ∃ x2, x2 = rr x 11 := ⟨_, rfl⟩
  rw [← hx2]
  have Hx2 := Lib.hid hx2
  clear hx2
  go_wp2_with fail
  refine (drotr_any x 25 _ (by omega) (by omega)).mono ?_
  rintro e w' ⟨rfl, rfl⟩
  obtain ⟨x3, hx3⟩ : ∃ x3, x3 = rr x 25 := ⟨_, rfl⟩
  rw [← hx3]
  have Hx3 := Lib.hid hx3
  clear hx3
  go_wp2
  go_ret
  refine ⟨?_, rfl⟩
  show Ending.returned (Value.int .u32 (bits .xor .u32 (bits .xor .u32 (x1.toNat : Int) (x2.toNat : Int)) (x3.toNat : Int))) = _
  rw [i_xor, i_xor, Hx1.out, Hx2.out, Hx3.out]
  rfl

set_option maxHeartbeats 1000000 in
theorem mixA_any (x : UInt32) (w : World) :
    Calls Tryd.prog 21 #[.int .u32 (x.toNat : Int)] w fun e w' => e = .returned (.int .u32 ((S0 x).toNat : Int)) ∧ w = w' := by
  go_enter Tryd.func21, Tryd.ntmps21
  go_wp2_with fail
  refine (drotr_any x 2 _ (by omega) (by omega)).mono ?_
  rintro e w' ⟨rfl, rfl⟩
  obtain ⟨x1, hx1⟩ : ∃ x1, x1 = rr x 2 := ⟨_, rfl⟩
  rw [← hx1]
  have Hx1 := Lib.hid hx1
  clear hx1
  go_wp2_with fail
  refine (drotr_any x 13 _ (by omega) (by omega)).mono ?_
  rintro e w' ⟨rfl, rfl⟩
  obtain ⟨x2, hx2⟩ : ∃ x2, x2 = rr x 13 := ⟨_, rfl⟩
  rw [← hx2]
  have Hx2 := Lib.hid hx2
  clear hx2
  go_wp2_with fail
  refine (drotr_any x 22 _ (by omega) (by omega)).mono ?_
  rintro e w' ⟨rfl, rfl⟩
  obtain ⟨x3, hx3⟩ : ∃ x3, x3 = rr x 22 := ⟨_, rfl⟩
  rw [← hx3]
  have Hx3 := Lib.hid hx3
  clear hx3
  go_wp2
  go_ret
  refine ⟨?_, rfl⟩
  show Ending.returned (Value.int .u32 (bits .xor .u32 (bits .xor .u32 (x1.toNat : Int) (x2.toNat : Int)) (x3.toNat : Int))) = _
  rw [i_xor, i_xor, Hx1.out, Hx2.out, Hx3.out]
  rfl

set_option maxHeartbeats 1000000 in
theorem extend2_any (x : UInt32) (w : World) :
    Calls Tryd.prog 22 #[.int .u32 (x.toNat : Int)] w fun e w' => e = .returned (.int .u32 ((s1 x).toNat : Int)) ∧ w = w' := by
  go_enter Tryd.func22, Tryd.ntmps22
  go_wp2_with fail
  refine (drotr_any x 17 _ (by omega) (by omega)).mono ?_
  rintro e w' ⟨rfl, rfl⟩
  obtain ⟨x1, hx1⟩ : ∃ x1, x1 = rr x 17 := ⟨_, rfl⟩
  rw [← hx1]
  have Hx1 := Lib.hid hx1
  clear hx1
  go_wp2_with fail
  refine (drotr_any x 19 _ (by omega) (by omega)).mono ?_
  rintro e w' ⟨rfl, rfl⟩
  obtain ⟨x2, hx2⟩ : ∃ x2, x2 = rr x 19 := ⟨_, rfl⟩
  rw [← hx2]
  have Hx2 := Lib.hid hx2
  clear hx2
  go_wp2
  go_ret
  refine ⟨?_, rfl⟩
  show Ending.returned (Value.int .u32 (bits .xor .u32 (bits .xor .u32 (x1.toNat : Int) (x2.toNat : Int)) ((x.toNat : Int) / 1024))) = _
  rw [show ((x.toNat : Int) / 1024) = ((sr x 10).toNat : Int) from i_sr x 10, i_xor, i_xor, Hx1.out, Hx2.out]
  rfl

set_option maxHeartbeats 1000000 in
theorem extend15_any (x : UInt32) (w : World) :
    Calls Tryd.prog 23 #[.int .u32 (x.toNat : Int)] w fun e w' => e = .returned (.int .u32 ((s0 x).toNat : Int)) ∧ w = w' := by
  go_enter Tryd.func23, Tryd.ntmps23
  go_wp2_with fail
  refine (drotr_any x 7 _ (by omega) (by omega)).mono ?_
  rintro e w' ⟨rfl, rfl⟩
  obtain ⟨x1, hx1⟩ : ∃ x1, x1 = rr x 7 := ⟨_, rfl⟩
  rw [← hx1]
  have Hx1 := Lib.hid hx1
  clear hx1
  go_wp2_with fail
  refine (drotr_any x 18 _ (by omega) (by omega)).mono ?_
  rintro e w' ⟨rfl, rfl⟩
  obtain ⟨x2, hx2⟩ : ∃ x2, x2 = rr x 18 := ⟨_, rfl⟩
  rw [← hx2]
  have Hx2 := Lib.hid hx2
  clear hx2
  go_wp2
  go_ret
  refine ⟨?_, rfl⟩
  show Ending.returned (Value.int .u32 (bits .xor .u32 (bits .xor .u32 (x1.toNat : Int) (x2.toNat : Int)) ((x.toNat : Int) / 8))) = _
  rw [show ((x.toNat : Int) / 8) = ((sr x 3).toNat : Int) from i_sr x 3, i_xor, i_xor, Hx1.out, Hx2.out]
  rfl
end Go.Proofs.YtoaogcchaafikaaDoor.S3
