/-
  How texts that begin alike are encrypted: on lists; without the program.
-/
import Derived.Test.YtgfmdjagggnfbaaCtR
namespace Go.Proofs.Ytgfmdjagggnfbaa.S9
open Go.RowKit
open Go.Proofs.Ytgfmdjagggnfbaa.S7 hiding intOf
open Go.Proofs.Ytgfmdjagggnfbaa.S8 (xorL xorL_len xor_xorL z16)
set_option linter.unusedVariables false
set_option linter.unusedSimpArgs false

theorem jB_take (f : Nat → List UInt8) (hf : ∀ i, (f i).length = 16) (n j : Nat) (h : j ≤ n) : (jB f n).take (16 * j) = jB f j := by
  induction n with
  | zero =>
    obtain rfl : j = 0 := by omega
    rfl
  | succ n ih =>
    have hl := jB_len f hf n
    by_cases hj : j = n + 1
    · subst hj
      exact List.take_of_length_le (by rw [jB_len f hf]; omega)
    · show (jB f n ++ f n).take (16 * j) = _
      rw [List.take_append_of_le_length (by omega), ih (by omega)]
theorem jB_piece (f : Nat → List UInt8) (hf : ∀ i, (f i).length = 16) (n i : Nat) (h : i < n) : ((jB f n).drop (16 * i)).take 16 = f i := by
  have hl := jB_len f hf n
  have hi := hf i
  apply ext_gt
  · simp; omega
  · intro j hj
    have hj16 : j < 16 := by simp at hj; omega
    rw [gt_take, if_pos hj16, show gt ((jB f n).drop (16 * i)) j = gt (jB f n) (16 * i + j) by simp [gt, List.getD_eq_getElem?_getD, List.getElem?_drop]]
    exact gt_jB f hf n i j h hj16
theorem ctsE_take (W b : List UInt8) (j : Nat) (h : j + 2 ≤ nb b.length) : (ctsE W b).take (16 * j) = chn W b j := by
  unfold ctsE
  rw [List.take_take, Nat.min_eq_left (by unfold nb at h; omega), jB_take _ (eB_len W b _) _ j (by omega)]
  exact (chn_eB W b _ j (Or.inl h)).symm
theorem ctsE_piece (W b : List UInt8) (i : Nat) (h : 16 * i + 16 ≤ b.length) : ((ctsE W b).drop (16 * i)).take 16 = eB W b (nb b.length) i := by
  unfold ctsE
  rw [List.drop_take, List.take_take, Nat.min_eq_left (by omega)]
  exact jB_piece _ (eB_len W b _) _ i (by unfold nb; omega)
theorem xor_right (a b c : List UInt8) (ha : a.length = 16) (hb : b.length = 16) (h : xorL a c = xorL b c) : a = b := by rw [← xor_xorL a c ha, h, xor_xorL b c hb]
theorem cc_congr (W a b : List UInt8) (j : Nat) (h : ∀ i, i < j → pb a i = pb b i) : cc W a j = cc W b j := by
  induction j with
  | zero => rfl
  | succ j ih => show encL W (xorL (pb a j) (cc W a j)) = encL W (xorL (pb b j) (cc W b j)); rw [ih fun i hi => h i (by omega), h j (by omega)]
theorem chn_pb (W a b : List UInt8) (j : Nat) : chn W a j = chn W b j ↔ ∀ i, i < j → pb a i = pb b i := by
  constructor
  · intro h
    have hc : ∀ i, i ≤ j → cc W a i = cc W b i := by
      intro i hi
      cases i with
      | zero => rfl
      | succ i => rw [← chn_at W a j i (by omega), ← chn_at W b j i (by omega), h]
    intro i hi
    have h1 : encL W (xorL (pb a i) (cc W a i)) = encL W (xorL (pb b i) (cc W b i)) := hc (i + 1) (by omega)
    have h2 := (enc_apart W _ _ (xorL_len _ _) (xorL_len _ _)).1 h1
    rw [hc i (by omega)] at h2
    exact xor_right _ _ _ (pb_len _ _) (pb_len _ _) h2
  · intro h
    exact jB_congr _ _ j fun i hi => cc_congr W a b (i + 1) fun k hk => h k (by omega)
theorem take_pb (a b : List UInt8) (j : Nat) (ha : 16 * j ≤ a.length) (hb : 16 * j ≤ b.length) : (∀ i, i < j → pb a i = pb b i) ↔ a.take (16 * j) = b.take (16 * j) := by
  constructor
  · intro h
    apply ext_gt
    · simp; omega
    · intro i hi
      have hi2 : i < 16 * j := by simp at hi; omega
      rw [gt_take, gt_take, if_pos hi2, if_pos hi2]
      have := congrArg (fun l => gt l (i % 16)) (h (i / 16) (by omega))
      simp only [gt_pb _ _ _ (show i % 16 < 16 by omega)] at this
      rwa [show 16 * (i / 16) + i % 16 = i by omega] at this
  · intro h i hi
    refine mk_congr fun k hk => ?_
    have := congrArg (fun l => gt l (16 * i + k)) h
    simp only [gt_take, if_pos (show 16 * i + k < 16 * j by omega)] at this
    exact this
/-- Just texts that begin alike are encrypted alike, so far. -/
theorem begins (W a b : List UInt8) (j : Nat) (ha : j + 2 ≤ nb a.length) (hb : j + 2 ≤ nb b.length) : (ctsE W a).take (16 * j) = (ctsE W b).take (16 * j) ↔ a.take (16 * j) = b.take (16 * j) := by
  rw [ctsE_take W a j ha, ctsE_take W b j hb, chn_pb, take_pb a b j (by unfold nb at ha; omega) (by unfold nb at hb; omega)]
/-- One byte more. -/
theorem pb_snoc (b : List UInt8) (c : UInt8) (i : Nat) (h : 16 * i + 16 ≤ b.length) : pb (b ++ [c]) i = pb b i := mk_congr fun j hj => gt_left _ _ _ (by omega)
theorem last_first (W b : List UInt8) (c : UInt8) (h : b.length = 48) : (ctsE W b).take 16 = (ctsE W (b ++ [c])).take 16 := by
  have h1 := ctsE_take W b 1 (by rw [h]; decide)
  have h2 := ctsE_take W (b ++ [c]) 1 (by rw [show (b ++ [c]).length = 49 by simp [h]]; decide)
  rw [show 16 * 1 = 16 from rfl] at h1 h2
  rw [h1, h2, chn_pb]
  intro i hi
  exact (pb_snoc b c i (by omega)).symm
theorem last_second (W b : List UInt8) (c : UInt8) (h : b.length = 48) : ((ctsE W b).drop 32).take 16 = ((ctsE W (b ++ [c])).drop 16).take 16 := by
  have hl : (b ++ [c]).length = 49 := by simp [h]
  have h1 := ctsE_piece W b 2 (by omega)
  have h2 := ctsE_piece W (b ++ [c]) 1 (by omega)
  rw [show 16 * 2 = 32 from rfl, h] at h1
  rw [show 16 * 1 = 16 from rfl, hl] at h2
  rw [h1, h2]
  rw [show nb 48 = 3 from rfl, show nb 49 = 4 from rfl]
  unfold eB
  rw [if_neg (by omega), if_neg (by omega), if_pos (by omega)]
  exact cc_congr W _ _ 2 fun i hi => (pb_snoc b c i (by omega)).symm
end Go.Proofs.Ytgfmdjagggnfbaa.S9
