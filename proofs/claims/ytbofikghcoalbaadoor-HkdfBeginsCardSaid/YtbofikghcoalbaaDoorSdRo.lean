/-
  Contracts of the program's rotr and of the four mixes.
-/
import Derived.Test.YtbofikghcoalbaaDoorSbRo
namespace Go.Proofs.YtbofikghcoalbaaDoor.S4
open Go.RowKit
set_option linter.unusedVariables false
set_option linter.unusedSimpArgs false

theorem and63 : ∀ n : Fin 64, 1 ≤ n.val → bits .and .u64 (18446744073709551616 - (n.val : Int)) 63 = ((64 - n.val : Nat) : Int) := by decide +kernel
theorem wo_comm (x y : UInt64) : wo x y = wo y x := by unfold wo; exact UInt64.or_comm x y

set_option maxHeartbeats 1000000 in
theorem rotl_any (x : UInt64) (n : Nat) (w : World) (h1 : 1 ≤ n) (h2 : n < 64) :
    Calls Tryd.prog 45 #[.int .u64 (x.toNat : Int), .int .i64 (-(n : Int))] w fun e w' => e = .returned (.int .u64 ((rr x n).toNat : Int)) ∧ w = w' := by
  have hw : IntKind.u64.wrap (-(n : Int)) = 18446744073709551616 - (n : Int) := by rw [IntKind.wrap_u64]; omega
  have ha : bits .and .u64 (18446744073709551616 - (n : Int)) 63 = ((64 - n : Nat) : Int) := and63 ⟨n, h2⟩ h1
  go_enter Tryd.func45, Tryd.ntmps45
  go_wp2
  go_ret
  refine ⟨?_, rfl⟩
  show Ending.returned (Value.int .u64 (bits .or .u64 ((x.toNat : Int) * 2 ^ (64 - n) % 18446744073709551616) ((x.toNat : Int) / 2 ^ (64 - (64 - n))))) = _
  rw [show 64 - (64 - n) = n by omega, i_sr, ← IntKind.wrap_u64, i_sl, i_or, wo_comm]
  rfl

theorem drotr_any (x : UInt64) (n : Nat) (w : World) (h1 : 1 ≤ n) (h2 : n < 64) :
    Calls Tryd.prog 44 #[.int .u64 (x.toNat : Int), .int .i64 (n : Int)] w fun e w' => e = .returned (.int .u64 ((rr x n).toNat : Int)) ∧ w = w' := by
  go_enter Tryd.func44, Tryd.ntmps44
  go_wp2_with ((with_reducible refine (rotl_any _ n _ h1 h2).mono ?_); rintro e w' ⟨rfl, rfl⟩)
  go_ret
  exact ⟨rfl, rfl⟩

set_option maxHeartbeats 1000000 in
theorem mixE_any (x : UInt64) (w : World) :
    Calls Tryd.prog 39 #[.int .u64 (x.toNat : Int)] w fun e w' => e = .returned (.int .u64 ((S1 x).toNat : Int)) ∧ w = w' := by
  go_enter Tryd.func39, Tryd.ntmps39
  go_wp2_with fail
  refine (drotr_any x 14 _ (by omega) (by omega)).mono ?_
  rintro e w' ⟨rfl, rfl⟩
  obtain ⟨x1, hx1⟩ : ∃ x1, x1 = rr x 14 := ⟨_, rfl⟩
  rw [← hx1]
  have Hx1 := Lib.hid hx1
  clear hx1
  go_wp2_with fail
  refine (drotr_any x 18 _ (by omega) (by omega)).mono ?_
  rintro e w' ⟨rfl, rfl⟩
  obtain ⟨x2, hx2⟩ : ∃ x2, x2 = rr x 18 := ⟨_, rfl⟩
  rw [← hx2]
  have Hx2 := Lib.hid hx2
  clear hx2
  go_wp2_with fail
  refine (drotr_any x 41 _ (by omega) (by omega)).mono ?_
  rintro e w' ⟨rfl, rfl⟩
  obtain ⟨x3, hx3⟩ : ∃ x3, x3 = rr x 41 := ⟨_, rfl⟩
  rw [← hx3]
  have Hx3 := Lib.hid hx3
  clear hx3
  go_wp2
  go_ret
  refine ⟨?_, rfl⟩
  show Ending.returned (Value.int .u64 (bits .xor .u64 (bits .xor .u64 (x1.toNat : Int) (x2.toNat : Int)) (x3.toNat : Int))) = _
  rw [i_xor, i_xor, Hx1.out, Hx2.out, Hx3.out]
  rfl

set_option maxHeartbeats 1000000 in
theorem mixA_any (x : UInt64) (w : World) :
    Calls Tryd.prog 40 #[.int .u64 (x.toNat : Int)] w fun e w' => e = .returned (.int .u64 ((S0 x).toNat : Int)) ∧ w = w' := by
  go_enter Tryd.func40, Tryd.ntmps40
  go_wp2_with fail
  refine (drotr_any x 28 _ (by omega) (by omega)).mono ?_
  rintro e w' ⟨rfl, rfl⟩
  obtain ⟨x1, hx1⟩ : ∃ x1, x1 = rr x 28 := ⟨_, rfl⟩
  rw [← hx1]
  have Hx1 := Lib.hid hx1
  clear hx1
  go_wp2_with fail
  refine (drotr_any x 34 _ (by omega) (by omega)).mono ?_
  rintro e w' ⟨rfl, rfl⟩
  obtain ⟨x2, hx2⟩ : ∃ x2, x2 = rr x 34 := ⟨_, rfl⟩
  rw [← hx2]
  have Hx2 := Lib.hid hx2
  clear hx2
  go_wp2_with fail
  refine (drotr_any x 39 _ (by omega) (by omega)).mono ?_
  rintro e w' ⟨rfl, rfl⟩
  obtain ⟨x3, hx3⟩ : ∃ x3, x3 = rr x 39 := ⟨_, rfl⟩
  rw [← hx3]
  have Hx3 := Lib.hid hx3
  clear hx3
  go_wp2
  go_ret
  refine ⟨?_, rfl⟩
  show Ending.returned (Value.int .u64 (bits .xor .u64 (bits .xor .u64 (x1.toNat : Int) (x2.toNat : Int)) (x3.toNat : Int))) = _
  rw [i_xor, i_xor, Hx1.out, Hx2.out, Hx3.out]
  rfl

set_option maxHeartbeats 1000000 in
theorem extend2_any (x : UInt64) (w : World) :
    Calls Tryd.prog 42 #[.int .u64 (x.toNat : Int)] w fun e w' => e = .returned (.int .u64 ((s1 x).toNat : Int)) ∧ w = w' := by
  go_enter Tryd.func42, Tryd.ntmps42
  go_wp2_with fail
  refine (drotr_any x 19 _ (by omega) (by omega)).mono ?_
  rintro e w' ⟨rfl, rfl⟩
  obtain ⟨x1, hx1⟩ : ∃ x1, x1 = rr x 19 := ⟨_, rfl⟩
  rw [← hx1]
  have Hx1 := Lib.hid hx1
  clear hx1
  go_wp2_with fail
  refine (drotr_any x 61 _ (by omega) (by omega)).mono ?_
  rintro e w' ⟨rfl, rfl⟩
  obtain ⟨x2, hx2⟩ : ∃ x2, x2 = rr x 61 := ⟨_, rfl⟩
  rw [← hx2]
  have Hx2 := Lib.hid hx2
  clear hx2
  go_wp2
  go_ret
  refine ⟨?_, rfl⟩
  show Ending.returned (Value.int .u64 (bits .xor .u64 (bits .xor .u64 (x1.toNat : Int) (x2.toNat : Int)) ((x.toNat : Int) / 64))) = _
  rw [show ((x.toNat : Int) / 64) = ((sr x 6).toNat : Int) from i_sr x 6, i_xor, i_xor, Hx1.out, Hx2.out]
  rfl

set_option maxHeartbeats 1000000 in
theorem extend15_any (x : UInt64) (w : World) :
    Calls Tryd.prog 43 #[.int .u64 (x.toNat : Int)] w fun e w' => e = .returned (.int .u64 ((s0 x).toNat : Int)) ∧ w = w' := by
  go_enter Tryd.func43, Tryd.ntmps43
  go_wp2_with fail
  refine (drotr_any x 1 _ (by omega) (by omega)).mono ?_
  rintro e w' ⟨rfl, rfl⟩
  obtain ⟨x1, hx1⟩ : ∃ x1, x1 = rr x 1 := ⟨_, rfl⟩
  rw [← hx1]
  have Hx1 := Lib.hid hx1
  clear hx1
  go_wp2_with fail
  refine (drotr_any x 8 _ (by omega) (by omega)).mono ?_
  rintro e w' ⟨rfl, rfl⟩
  obtain ⟨x2, hx2⟩ : ∃ x2, x2 = rr x 8 := ⟨_, rfl⟩
  rw [← hx2]
  have Hx2 := Lib.hid hx2
  clear hx2
  go_wp2
  go_ret
  refine ⟨?_, rfl⟩
  show Ending.returned (Value.int .u64 (bits .xor .u64 (bits .xor .u64 (x1.toNat : Int) (x2.toNat : Int)) ((x.toNat : Int) / 128))) = _
  rw [show ((x.toNat : Int) / 128) = ((sr x 7).toNat : Int) from i_sr x 7, i_xor, i_xor, Hx1.out, Hx2.out]
  rfl
end Go.Proofs.YtbofikghcoalbaaDoor.S4
