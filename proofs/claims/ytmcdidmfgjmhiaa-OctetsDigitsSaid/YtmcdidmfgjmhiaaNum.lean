/-
  Contracts of byteAt, Number and the reference's Number: for every slice that reads as a list of bytes.
-/
import Derived.Test.YtmcdidmfgjmhiaaBase
import Derived.Test.YtmcdidmfgjmhiaaMath
namespace Go.Proofs.Ytmcdidmfgjmhiaa
open Go.RowKit
set_option linter.unusedVariables false

theorem byteAt_in (A : Option Addr) (c : Nat) (l : List UInt8) (k : Nat) (w : World) (B : Nat) (h : Rd w B A l) (hl : l.length ≤ 1000000) (hk : k < l.length) :
    Calls Try.prog 26 #[.slice A l.length c, .int .i64 k] w fun e w' => e = .returned (.int .u8 (l[k].toNat : Int)) ∧ w = w' := by
  obtain ⟨b, off, rfl, hb, hc⟩ := h.at_ hk
  clear h
  go_enter Try.func26, Try.ntmps26
  go_wp2
  go_ret
  exact ⟨rfl, rfl⟩

theorem byteAt_out (A : Option Addr) (c : Nat) (l : List UInt8) (k : Nat) (w : World) (hl : l.length ≤ 1000000) (hk : l.length ≤ k) (hk2 : k ≤ 1000000) :
    Calls Try.prog 26 #[.slice A l.length c, .int .i64 k] w fun e w' => e = .returned (.int .u8 0) ∧ w = w' := by
  go_enter Try.func26, Try.ntmps26
  go_wp2
  go_ret
  exact ⟨rfl, rfl⟩

set_option maxHeartbeats 400000 in
theorem number_any (A : Option Addr) (c : Nat) (l : List UInt8) (w : World) (B : Nat) (h : Rd w B A l) (hl : l.length ≤ 1000000) :
    Calls Try.prog 11 #[.slice A l.length c] w fun e w' => e = .returned (.int .i64 (wrap64 (numN l : Int))) ∧ w = w' := by
  go_enter Try.func11, Try.ntmps11
  go_wp2
  go_loop [3, 8] (fun n i => ∃ k : Nat, k ≤ l.length ∧ i = .int .i64 k ∧ n = .int .i64 (wrap64 (numN (l.take k) : Int))) (fun _ i => l.length - (intOf i).toNat)
  case atStart => exact ⟨0, Nat.zero_le _, rfl, int_eq (by simp [numN, wrap64])⟩
  case round =>
    obtain ⟨k, hk, rfl, rfl⟩ := hrel
    by_cases hlt : k < l.length
    · obtain ⟨b, off, rfl, hb, hc⟩ := h.at_ hlt
      go_wp2
      go_round
      case rel => exact ⟨k + 1, by omega, by go_num, int_eq (by rw [or_step _ _ (u8_lt _), numN_take l k hlt])⟩
      case measure => simp [intOf]; omega
    · go_wp2
      go_ret
      exact ⟨ret_int (by rw [List.take_of_length_le (by omega)]), rfl⟩

set_option maxHeartbeats 400000 in
theorem refNumber_any (A : Option Addr) (c : Nat) (l : List UInt8) (w : World) (B : Nat) (h : Rd w B A l) (hl : l.length ≤ 1000000) :
    Calls Try.prog 12 #[.slice A l.length c] w fun e w' => e = .returned (.int .i64 (wrap64 (numN l : Int))) ∧ w = w' := by
  go_enter Try.func12, Try.ntmps12
  go_wp2
  go_loop [3, 4] (fun n i => ∃ k : Nat, k ≤ l.length ∧ i = .int .i64 k ∧ n = .int .u64 (IntKind.u64.wrap (numN (l.take k) : Int))) (fun _ i => l.length - (intOf i).toNat)
  case atStart => exact ⟨0, Nat.zero_le _, rfl, rfl⟩
  case round =>
    obtain ⟨k, hk, rfl, rfl⟩ := hrel
    by_cases hlt : k < l.length
    · obtain ⟨b, off, rfl, hb, hc⟩ := h.at_ hlt
      go_wp2
      go_round
      case rel => exact ⟨k + 1, by omega, by go_num, int_eq (by rw [u64_step _ _ (u8_lt _), numN_take l k hlt])⟩
      case measure => simp [intOf]; omega
    · go_wp2
      go_ret
      exact ⟨ret_int (by rw [List.take_of_length_le (by omega)]; exact i64_of_u64 _), rfl⟩

end Go.Proofs.Ytmcdidmfgjmhiaa
