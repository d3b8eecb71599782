/-
  Contract of the program's wordAt: the word of the first eight bytes.
-/
import Derived.Test.YtbofikghcoalbaaDoorSbSu
import Derived.Test.YtbofikghcoalbaaDoorSdKt
import Derived.Test.YtbofikghcoalbaaDoorSdRo
import Derived.Deep.MidRow
import Derived.StillTailTactics
namespace Go.Proofs.YtbofikghcoalbaaDoor.S4
open Go.RowKit
set_option linter.unusedVariables false
set_option linter.unusedSimpArgs false

theorem numN_pre (l : List UInt8) : ∀ k, k ≤ l.length → numN (l.take k) < 256 ^ k := by
  intro k
  induction k with
  | zero => intro _; simp [numN]
  | succ k ih =>
    intro hk
    rw [numN_take l k (by omega), Nat.pow_succ]
    have := ih (by omega)
    have := u8_lt l[k]
    omega

set_option maxHeartbeats 1000000 in
theorem wordAt_any (A : Option Addr) (n c : Nat) (l : List UInt8) (w : World) (h : Rd w w.heap.size A l) (hl : l.length = n) (hn : 8 ≤ n) (hc : n ≤ c) :
    Calls Tryd.prog 41 #[.slice A n c] w fun e w' => e = .returned (.int .u64 (numN (l.take 8) : Int)) ∧ w = w' := by
  have H := Lib.hid h
  have Hl := Lib.hid hl
  clear h hl
  have hcut : ∀ W : World, (Instr.slice 22 (.slice A n c) none (some (.int .i64 8)) none).run Tryd.prog W = .ok (.slice A 8 c) W := fun W => cut_to W A n c 8 (by omega)
  go_enter Tryd.func41, Tryd.ntmps41
  go_wp2
  go_loop [3, 9] (fun x i => ∃ (k N : Nat), k ≤ 8 ∧ i = .int .i64 (k : Int) ∧ x = .int .u64 (N : Int) ∧ Hid (N = numN (l.take k))) (fun _ i => 8 - (intOf i).toNat)
  case atStart => exact ⟨0, 0, by omega, rfl, rfl, rfl⟩
  case round =>
    clear hcut
    obtain ⟨k, N, hk, rfl, rfl, HN⟩ := hrel
    by_cases hlt : k < 8
    · have hkl : k < l.length := by rw [Hl.out]; omega
      obtain ⟨b, off, rfl, hb, hcell⟩ := H.out.at_ hkl
      have HN2 := Lib.hid (show N * 256 + l[k].toNat = numN (l.take (k + 1)) by rw [numN_take l k hkl, HN.out])
      have hNlt : N < 72057594037927936 := by
        have h1 := numN_pre l k (by omega)
        rw [← HN.out] at h1
        exact Nat.lt_of_lt_of_le h1 (show 256 ^ k ≤ 256 ^ 7 from Nat.pow_le_pow_right (by omega) (by omega))
      generalize l[k] = y at hcell HN2
      have hy := u8_lt y
      have e1 : IntKind.u64.wrap ((N : Int) * 256) = ((N * 256 : Nat) : Int) := by rw [IntKind.wrap_u64]; omega
      have e2 : IntKind.u64.wrap (y.toNat : Int) = (y.toNat : Int) := by rw [IntKind.wrap_u64]; omega
      have e3 : bits .or .u64 ((N * 256 : Nat) : Int) (y.toNat : Int) = ((N * 256 + y.toNat : Nat) : Int) := by
        have h2 := Nat.two_pow_add_eq_or_of_lt (i := 8) (b := y.toNat) (by omega) N
        rw [u64_or_nat _ _ (by omega) (by omega)]
        congr 1
        rw [show N * 256 = 2 ^ 8 * N by omega, ← h2]
      have hk8 : (k : Int) < 8 := by omega
      go_wp2
      go_round
      case rel => exact ⟨k + 1, N * 256 + y.toNat, by omega, by go_num, int_eq (by rw [show (N : Int) * 256 = ((N * 256 : Nat) : Int) by omega, e3]), HN2.out⟩
      case measure => simp [intOf]; omega
    · obtain rfl : k = 8 := by omega
      rw [show ((8 : Nat) : Int) = 8 from rfl]
      go_wp2
      go_ret
      exact ⟨by rw [HN.out]; rfl, rfl⟩
end Go.Proofs.YtbofikghcoalbaaDoor.S4
