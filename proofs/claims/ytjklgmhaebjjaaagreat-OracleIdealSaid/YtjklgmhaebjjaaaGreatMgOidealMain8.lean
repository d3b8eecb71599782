/-
  Contracts of Lay and the reference's Lay.
-/
import Derived.Test.YtjklgmhaebjjaaaGreatMgOidealMain3
import Derived.Test.YtjklgmhaebjjaaaGreatMgOidealMain7
namespace Go.Proofs.YtjklgmhaebjjaaaGreat
open Go.RowKit
set_option linter.unusedVariables false

def byteOf (n : Int) (t : Nat) : UInt8 := UInt8.ofNat (n / 2 ^ (8 * t) % 256).toNat
def layP (n : Int) (k i : Nat) : List UInt8 := (List.range k).map fun j => if k - 1 - j < i then byteOf n (k - 1 - j) else 0
def layL (n : Int) (k : Nat) : List UInt8 := (List.range k).map fun j => byteOf n (k - 1 - j)
theorem layL_len (n : Int) (k : Nat) : (layL n k).length = k := by simp [layL]
theorem layP_len (n : Int) (k i : Nat) : (layP n k i).length = k := by simp [layP]
theorem layP_set (n : Int) (k i : Nat) (hi : i < k) : (layP n k i).set (k - 1 - i) (byteOf n i) = layP n k (i + 1) := by
  apply List.ext_getElem
  · simp [layP]
  · intro j h1 h2
    simp [layP] at h1
    rw [List.getElem_set]
    by_cases e : k - 1 - i = j
    · subst e
      simp [layP, show k - 1 - (k - 1 - i) = i by omega]
    · rw [if_neg e]
      simp only [layP, List.getElem_map, List.getElem_range]
      by_cases c : k - 1 - j < i
      · rw [if_pos c, if_pos (by omega)]
      · rw [if_neg c, if_neg (by omega)]
theorem layP_zero (n : Int) (k : Nat) : layP n k 0 = List.replicate k 0 := by
  apply List.ext_getElem <;> simp [layP]
theorem layP_all (n : Int) (k : Nat) : layP n k k = layL n k := by
  apply List.ext_getElem
  · simp [layP, layL]
  · intro j h1 h2
    simp [layP] at h1
    simp [layP, layL, show k - 1 - j < k by omega]
theorem bv_byteOf (n : Int) (t : Nat) : bv (byteOf n t) = .int .u8 (n / 2 ^ (8 * t) % 256) := by
  unfold bv byteOf
  apply int_eq
  have h1 : 0 ≤ n / 2 ^ (8 * t) % 256 := Int.emod_nonneg _ (by decide)
  have h2 : n / 2 ^ (8 * t) % 256 < 256 := Int.emod_lt_of_pos _ (by decide)
  generalize n / 2 ^ (8 * t) % 256 = m at h1 h2
  rw [UInt8.toNat_ofNat']
  omega

set_option maxHeartbeats 400000 in
theorem lay_any (n size : Int) (k : Nat) (w : World) (hk : k ≤ 8) (h : (size < 0 ∧ k = 0) ∨ size = (k : Int) ∨ (8 < size ∧ k = 8)) :
    Calls Tryz.prog 81 #[.int .i64 n, .int .i64 size] w (Makes w (layL n k)) := by
  have hmk := fun W => mk22 k (by omega) W
  have hmk0 : ∀ W, (Instr.makeSlice 22 (.int .i64 0) (.int .i64 0)).run Tryz.prog W = .ok (.slice (some ⟨W.heap.size, 0, none⟩) 0 0) (W.alloc (.cells (bvs (List.replicate 0 0)).toArray 5)) := fun W => mk22 0 (by omega) W
  have hmk8 : ∀ W, (Instr.makeSlice 22 (.int .i64 8) (.int .i64 8)).run Tryz.prog W = .ok (.slice (some ⟨W.heap.size, 0, none⟩) 8 8) (W.alloc (.cells (bvs (List.replicate 8 0)).toArray 5)) := fun W => mk22 8 (by omega) W
  have fin : ∀ wr, Row wr w.heap.size (layP n k k) → Below w.heap.size w wr → Makes w (layL n k) (.returned (.slice (some ⟨w.heap.size, 0, none⟩) k k)) wr := by
    intro wr hr hb
    rw [layP_all] at hr
    have := Own.row hr (Nat.le_refl _) (by rw [layL_len]; omega)
    rw [layL_len] at this
    exact ⟨_, _, by rw [layL_len], this, hb⟩
  rcases h with ⟨h1, rfl⟩ | rfl | ⟨h1, rfl⟩
  all_goals
    go_enter Tryz.func81, Tryz.ntmps81
    go_wp2
  · refine wp_loop_rounds 1 ?_
    rw [rounds_succ]
    go_wp2
    go_ret
    exact fin _ (by rw [layP_zero]; exact Row.new w _) ((Below.refl _ _).alloc (Nat.le_refl _) _)
  · go_loopw [13] (fun i wr => ∃ t : Nat, t ≤ k ∧ i = .int .i64 t ∧ Row wr w.heap.size (layP n k t) ∧ Below w.heap.size w wr) (fun i _ => k - (intOf i).toNat)
    case atStart => exact ⟨0, by omega, rfl, by rw [layP_zero]; exact Row.new w _, (Below.refl _ _).alloc (Nat.le_refl _) _⟩
    case round =>
      obtain ⟨t, ht, rfl, hr, hb⟩ := hrel
      by_cases hlt : t < k
      · have hc := hr.cell (k - 1 - t) (by rw [layP_len]; omega)
        have hf := hr.free (k - 1 - t)
        go_wp2
        go_roundw
        case rel =>
          rw [← bv_byteOf]
          exact ⟨t + 1, by omega, by go_num, by rw [← layP_set n k t hlt]; exact hr.put _ _, hb.setCell (Nat.le_refl _) _⟩
        case measure => simp [intOf]; omega
      · obtain rfl : t = k := by omega
        go_wp2
        go_ret
        exact fin _ hr hb
  · go_loopw [13] (fun i wr => ∃ t : Nat, t ≤ 8 ∧ i = .int .i64 t ∧ Row wr w.heap.size (layP n 8 t) ∧ Below w.heap.size w wr) (fun i _ => 8 - (intOf i).toNat)
    case atStart => exact ⟨0, by omega, rfl, by rw [layP_zero]; exact Row.new w _, (Below.refl _ _).alloc (Nat.le_refl _) _⟩
    case round =>
      obtain ⟨t, ht, rfl, hr, hb⟩ := hrel
      by_cases hlt : t < 8
      · have hc := hr.cell (8 - 1 - t) (by rw [layP_len]; omega)
        have hf := hr.free (8 - 1 - t)
        go_wp2
        go_roundw
        case rel =>
          rw [← bv_byteOf]
          exact ⟨t + 1, by omega, by go_num, by rw [← layP_set n 8 t hlt]; exact hr.put _ _, hb.setCell (Nat.le_refl _) _⟩
        case measure => simp [intOf]; omega
      · obtain rfl : t = 8 := by omega
        go_wp2
        go_ret
        exact fin _ hr hb
end Go.Proofs.YtjklgmhaebjjaaaGreat
