/-
  HKDF on lists: the blocks, their concatenation, and what is cut off it.
-/
import Derived.Test.YtbofikghcoalbaaDoorHmo
namespace Go.Proofs.YtbofikghcoalbaaDoor.S6
open Go.RowKit
open S5 (macL macL_len)
set_option linter.unusedVariables false
set_option linter.unusedSimpArgs false

/-- Block t (0: nothing). -/
def tL (k i : List UInt8) : Nat → List UInt8
  | 0 => []
  | t + 1 => macL k (tL k i t ++ i ++ [UInt8.ofNat (t + 1)])
/-- The first t blocks. -/
def oL (k i : List UInt8) : Nat → List UInt8
  | 0 => []
  | t + 1 => oL k i t ++ tL k i (t + 1)
theorem tL_succ (k i : List UInt8) (t : Nat) : tL k i (t + 1) = macL k (tL k i t ++ i ++ [UInt8.ofNat (t + 1)]) := rfl
theorem oL_succ (k i : List UInt8) (t : Nat) : oL k i (t + 1) = oL k i t ++ tL k i (t + 1) := rfl
theorem tL_len (k i : List UInt8) (t : Nat) : (tL k i (t + 1)).length = 64 := macL_len _ _
theorem tL_le (k i : List UInt8) (t : Nat) : (tL k i t).length ≤ 64 := by
  cases t with
  | zero => simp [tL]
  | succ t => rw [tL_len]; omega
theorem oL_len (k i : List UInt8) (t : Nat) : (oL k i t).length = 64 * t := by
  induction t with
  | zero => rfl
  | succ t ih => rw [oL_succ, List.length_append, ih, tL_len]; omega
theorem oL_more (k i : List UInt8) (t d : Nat) : ∃ r, oL k i (t + d) = oL k i t ++ r := by
  induction d with
  | zero => exact ⟨[], by simp⟩
  | succ d ih =>
    obtain ⟨r, hr⟩ := ih
    exact ⟨r ++ tL k i (t + d + 1), by rw [← Nat.add_assoc, oL_succ, hr, List.append_assoc]⟩
/-- What Expand yields. -/
def exL (k i : List UInt8) (n : Nat) : List UInt8 := (oL k i n).take n
theorem oL_take (k i : List UInt8) (t u n : Nat) (h : n ≤ 64 * t) (htu : t ≤ u) : (oL k i u).take n = (oL k i t).take n := by
  obtain ⟨d, rfl⟩ : ∃ d, u = t + d := ⟨u - t, by omega⟩
  obtain ⟨r, hr⟩ := oL_more k i t d
  rw [hr, List.take_append_of_le_length (by rw [oL_len]; exact h)]
theorem exL_of (k i : List UInt8) (t n : Nat) (h : n ≤ 64 * t) : (oL k i t).take n = exL k i n := by
  unfold exL
  rcases Nat.le_total t n with h1 | h1
  · exact (oL_take k i t n n h h1).symm
  · exact oL_take k i n t n (by omega) h1
theorem exL_len (k i : List UInt8) (n : Nat) : (exL k i n).length = n := by
  unfold exL
  rw [List.length_take, oL_len]
  omega
theorem exL_take (k i : List UInt8) (a b : Nat) (h : a ≤ b) : (exL k i b).take a = exL k i a := by
  rw [← exL_of k i b a (by omega)]
  unfold exL
  rw [List.take_take, Nat.min_eq_left h]
/-- Block t + 1 stands at 64 t. -/
theorem exL_block (k i : List UInt8) (t n : Nat) (h : 64 * t + 64 ≤ n) : ((exL k i n).drop (64 * t)).take 64 = tL k i (t + 1) := by
  rw [List.take_drop]
  rw [exL_take k i _ n (by omega), ← exL_of k i (t + 1) _ (by omega), oL_succ, List.take_of_length_le (by rw [List.length_append, oL_len, tL_len]; omega), List.drop_append_of_le_length (by rw [oL_len]; omega), List.drop_of_length_le (by rw [oL_len]; omega), List.nil_append]
/-- An empty salt stands for 64 zeros. -/
theorem mac_zero (T : List UInt8) : macL (List.replicate 64 0) T = macL [] T := S5.mac_noughts [] T 64 (by simp)
end Go.Proofs.YtbofikghcoalbaaDoor.S6
