/-
  CBC with ciphertext stealing on lists of bytes: encryption, decryption, and that each undoes the other; without the program.
-/
import Derived.Test.YtgfmdjagggnfbaaXtL
namespace Go.Proofs.Ytgfmdjagggnfbaa.S9
open Go.Proofs.Ytgfmdjagggnfbaa.S7
open Go.Proofs.Ytgfmdjagggnfbaa.S8 (xorL xorL_len xor_xorL z16 z32)
set_option linter.unusedVariables false
set_option linter.unusedSimpArgs false

theorem gt_take (l : List UInt8) (n i : Nat) : gt (l.take n) i = if i < n then gt l i else 0 := by
  simp only [gt, List.getD_eq_getElem?_getD, List.getElem?_take]
  by_cases h : i < n <;> simp [h]
theorem gt_over (l : List UInt8) (i : Nat) (h : l.length ≤ i) : gt l i = 0 := by simp [gt, List.getD_eq_getElem?_getD, List.getElem?_eq_none h]
theorem gt_left (a b : List UInt8) (i : Nat) (h : i < a.length) : gt (a ++ b) i = gt a i := by simp [gt, List.getD_eq_getElem?_getD, List.getElem?_append_left h]
theorem gt_right (a b : List UInt8) (i : Nat) (h : a.length ≤ i) : gt (a ++ b) i = gt b (i - a.length) := by simp [gt, List.getD_eq_getElem?_getD, List.getElem?_append_right h]
theorem ext_gt (a b : List UInt8) (hl : a.length = b.length) (h : ∀ i, i < a.length → gt a i = gt b i) : a = b := by
  apply List.ext_getElem hl
  intro i h1 h2
  have := h i h1
  simpa [gt, h1, h2] using this
/-- Blocks one behind another. -/
def jB (f : Nat → List UInt8) : Nat → List UInt8
  | 0 => []
  | k + 1 => jB f k ++ f k
theorem jB_len (f : Nat → List UInt8) (hf : ∀ i, (f i).length = 16) (k : Nat) : (jB f k).length = 16 * k := by
  induction k with
  | zero => rfl
  | succ k ih => show (jB f k ++ f k).length = _; rw [List.length_append, ih, hf]; omega
theorem gt_jB (f : Nat → List UInt8) (hf : ∀ i, (f i).length = 16) (k i j : Nat) (hi : i < k) (hj : j < 16) : gt (jB f k) (16 * i + j) = gt (f i) j := by
  induction k with
  | zero => omega
  | succ k ih =>
    have hl := jB_len f hf k
    show gt (jB f k ++ f k) _ = _
    by_cases h : i = k
    · subst h
      rw [gt_right _ _ _ (by omega), hl]
      congr 1
      omega
    · rw [gt_left _ _ _ (by omega), ih (by omega)]
theorem jB_congr (f g : Nat → List UInt8) (k : Nat) (h : ∀ i, i < k → f i = g i) : jB f k = jB g k := by
  induction k with
  | zero => rfl
  | succ k ih => show jB f k ++ f k = jB g k ++ g k; rw [ih fun i hi => h i (by omega), h k (by omega)]
/-- Block i of a text, padded with noughts. -/
def pb (b : List UInt8) (i : Nat) : List UInt8 := mk fun j => gt b (16 * i + j)
theorem pb_len (b : List UInt8) (i : Nat) : (pb b i).length = 16 := mk_len _
theorem gt_pb (b : List UInt8) (i j : Nat) (h : j < 16) : gt (pb b i) j = gt b (16 * i + j) := gt_mk _ j h
def nb (L : Nat) : Nat := (L + 15) / 16
theorem pb_take (f : Nat → List UInt8) (hf : ∀ i, (f i).length = 16) (n L i : Nat) (hi : i < n) (hL : 16 * i + 16 ≤ L) : pb ((jB f n).take L) i = f i := by
  refine Eq.trans (mk_congr fun j hj => ?_) (mk_gt (f i) (hf i))
  rw [gt_take, if_pos (by omega), gt_jB f hf n i j hi hj]
theorem jB_pb (b : List UInt8) (n : Nat) (hn : n = nb b.length) : (jB (pb b) n).take b.length = b := by
  have hl := jB_len (pb b) (pb_len b) n
  have h16 : b.length ≤ 16 * n := by unfold nb at hn; omega
  apply ext_gt
  · rw [List.length_take, hl]; omega
  · intro i hi
    have hib : i < b.length := by rw [List.length_take, hl] at hi; omega
    rw [gt_take, if_pos hib]
    have e : i = 16 * (i / 16) + i % 16 := by omega
    rw [e, gt_jB (pb b) (pb_len b) n (i / 16) (i % 16) (by omega) (by omega), gt_pb _ _ _ (by omega)]
/-- The chain: what block i is XORed with. -/
def cc (W b : List UInt8) : Nat → List UInt8
  | 0 => z16
  | i + 1 => encL W (xorL (pb b i) (cc W b i))
theorem cc_len (W b : List UInt8) (i : Nat) : (cc W b i).length = 16 := by
  cases i with
  | zero => rfl
  | succ i => exact encL_len _ _
def eB (W b : List UInt8) (n i : Nat) : List UInt8 := if i + 2 < n then cc W b (i + 1) else if i + 2 = n ∨ n = 1 then cc W b n else cc W b (n - 1)
theorem eB_len (W b : List UInt8) (n i : Nat) : (eB W b n i).length = 16 := by
  unfold eB
  split
  · exact cc_len _ _ _
  · split <;> exact cc_len _ _ _
def ctsE (W b : List UInt8) : List UInt8 := (jB (eB W b (nb b.length)) (nb b.length)).take b.length
theorem ctsE_len (W b : List UInt8) : (ctsE W b).length = b.length := by
  unfold ctsE
  rw [List.length_take, jB_len _ (eB_len W b _)]
  unfold nb
  omega
/-- Decryption: what was stolen, the blocks. -/
def dX (W y : List UInt8) (n : Nat) : List UInt8 := decL W (pb y (n - 2))
def stl (W y : List UInt8) (n : Nat) : List UInt8 := mk fun j => if 16 * (n - 1) + j < y.length then gt y (16 * (n - 1) + j) else gt (dX W y n) j
theorem stl_len (W y : List UInt8) (n : Nat) : (stl W y n).length = 16 := mk_len _
def yb (y : List UInt8) : Nat → List UInt8
  | 0 => z16
  | i + 1 => pb y i
theorem yb_len (y : List UInt8) (i : Nat) : (yb y i).length = 16 := by
  cases i with
  | zero => rfl
  | succ i => exact pb_len _ _
def dB (W y : List UInt8) (n i : Nat) : List UInt8 :=
  if n = 1 then decL W (pb y 0)
  else if i + 2 < n then xorL (decL W (pb y i)) (yb y i)
  else if i + 2 = n then xorL (decL W (stl W y n)) (yb y i)
  else xorL (dX W y n) (stl W y n)
theorem dB_len (W y : List UInt8) (n i : Nat) : (dB W y n i).length = 16 := by
  unfold dB
  split
  · exact decL_len _ _
  · split
    · exact xorL_len _ _
    · split <;> exact xorL_len _ _
def ctsD (W y : List UInt8) : List UInt8 := (jB (dB W y (nb y.length)) (nb y.length)).take y.length
theorem ctsD_len (W b : List UInt8) : (ctsD W b).length = b.length := by
  unfold ctsD
  rw [List.length_take, jB_len _ (dB_len W b _)]
  unfold nb
  omega
theorem xor_z16 (x : List UInt8) (h : x.length = 16) : xorL x z16 = x := by
  refine Eq.trans (mk_congr fun i hi => ?_) (mk_gt x h)
  have hz : ∀ j : Fin 16, gt z16 j.val = 0 := by decide +kernel
  rw [hz ⟨i, hi⟩, UInt8.xor_zero]
theorem gt_xorL (a b : List UInt8) (i : Nat) (h : i < 16) : gt (xorL a b) i = gt a i ^^^ gt b i := gt_mk _ i h
theorem xor_comm16 (a b : List UInt8) : xorL a b = xorL b a := mk_congr fun i _ => UInt8.xor_comm _ _
/-- A padded block of a list of length L, of blocks f, whose last one is nought from its end on. -/
theorem pb_last (f : Nat → List UInt8) (hf : ∀ i, (f i).length = 16) (n L : Nat) (hn : n = nb L) (h1 : 1 ≤ n) (h0 : ∀ j, j < 16 → L ≤ 16 * (n - 1) + j → gt (f (n - 1)) j = 0) : pb ((jB f n).take L) (n - 1) = f (n - 1) := by
  refine Eq.trans (mk_congr fun j hj => ?_) (mk_gt (f (n - 1)) (hf (n - 1)))
  rw [gt_take]
  by_cases h : 16 * (n - 1) + j < L
  · rw [if_pos h, gt_jB f hf n (n - 1) j (by omega) hj]
  · rw [if_neg h, h0 j hj (by omega)]

theorem stl_over (W y : List UInt8) (n : Nat) (j : Nat) (hj : j < 16) (h : y.length ≤ 16 * (n - 1) + j) : gt (xorL (dX W y n) (stl W y n)) j = 0 := by
  unfold stl
  rw [gt_xorL _ _ _ hj, gt_mk _ _ hj, if_neg (by omega), UInt8.xor_self]
section
variable (W y : List UInt8) (n : Nat) (hn : n = nb y.length) (h16 : 16 ≤ y.length)
include hn h16
theorem pb_dB (i : Nat) (hi : i < n) : pb (ctsD W y) i = dB W y n i := by
  unfold ctsD
  rw [← hn]
  by_cases h : i + 1 < n
  · exact pb_take _ (dB_len W y n) n _ i hi (by unfold nb at hn; omega)
  · obtain rfl : i = n - 1 := by omega
    refine pb_last _ (dB_len W y n) n _ hn (by omega) fun j hj hL => ?_
    by_cases h1 : n = 1
    · exfalso; subst h1; omega
    · unfold dB
      rw [if_neg h1, if_neg (by omega), if_neg (by omega)]
      exact stl_over W y n j hj hL
theorem cc_dB (h2 : 2 ≤ n) : ∀ i, i + 2 ≤ n → cc W (ctsD W y) i = yb y i := by
  intro i
  induction i with
  | zero => intro _; rfl
  | succ i ih =>
    intro hi
    show encL W (xorL (pb (ctsD W y) i) (cc W (ctsD W y) i)) = pb y i
    rw [pb_dB W y n hn h16 i (by omega), ih (by omega)]
    unfold dB
    rw [if_neg (by omega), if_pos (by omega), xor_xorL _ _ (decL_len _ _), enc_dec _ _ (pb_len _ _)]
theorem cc_stl (h2 : 2 ≤ n) : cc W (ctsD W y) (n - 1) = stl W y n := by
  obtain ⟨m, rfl⟩ : ∃ m, n = m + 2 := ⟨n - 2, by omega⟩
  show encL W (xorL (pb (ctsD W y) m) (cc W (ctsD W y) m)) = _
  rw [pb_dB W y _ hn h16 m (by omega), cc_dB W y _ hn h16 h2 m (by omega)]
  unfold dB
  rw [if_neg (by omega), if_neg (by omega), if_pos rfl, xor_xorL _ _ (decL_len _ _), enc_dec _ _ (stl_len _ _ _)]
theorem cc_top (h2 : 2 ≤ n) : cc W (ctsD W y) n = pb y (n - 2) := by
  obtain ⟨m, rfl⟩ : ∃ m, n = m + 2 := ⟨n - 2, by omega⟩
  show encL W (xorL (pb (ctsD W y) (m + 1)) (cc W (ctsD W y) (m + 1))) = _
  have hs : cc W (ctsD W y) (m + 1) = stl W y (m + 2) := cc_stl W y _ hn h16 h2
  rw [pb_dB W y _ hn h16 (m + 1) (by omega), hs]
  unfold dB
  rw [if_neg (by omega), if_neg (by omega), if_neg (by omega), xor_xorL (dX W y (m + 2)) _ (decL_len _ _)]
  exact enc_dec _ _ (pb_len _ _)
end
theorem ctsE_ctsD (W y : List UInt8) (h16 : 16 ≤ y.length) : ctsE W (ctsD W y) = y := by
  obtain ⟨n, hn⟩ : ∃ n, n = nb y.length := ⟨_, rfl⟩
  have hl := ctsD_len W y
  unfold ctsE
  rw [hl, ← hn]
  have h1 : 1 ≤ n := by unfold nb at hn; omega
  have hL : y.length ≤ 16 * n := by unfold nb at hn; omega
  have hjl := jB_len (eB W (ctsD W y) n) (eB_len W _ n) n
  apply ext_gt
  · rw [List.length_take, hjl]; omega
  · intro i hi
    have hib : i < y.length := by rw [List.length_take, hjl] at hi; omega
    rw [gt_take, if_pos hib]
    obtain ⟨q, r, e, hr⟩ : ∃ q r, i = 16 * q + r ∧ r < 16 := ⟨i / 16, i % 16, by omega, by omega⟩
    rw [e, gt_jB _ (eB_len W _ n) n q r (by omega) hr]
    unfold eB
    by_cases ha : q + 2 < n
    · rw [if_pos ha, cc_dB W y n hn h16 (by omega) (q + 1) (by omega)]
      exact gt_pb _ _ _ hr
    · rw [if_neg ha]
      by_cases hb : q + 2 = n ∨ n = 1
      · rw [if_pos hb]
        rcases hb with hb | hb
        · rw [cc_top W y n hn h16 (by omega), show n - 2 = q by omega, gt_pb _ _ _ hr]
        · subst hb
          have hq : q = 0 := by omega
          subst hq
          show gt (encL W (xorL (pb (ctsD W y) 0) z16)) r = _
          rw [pb_dB W y 1 hn h16 0 (by omega), xor_z16 _ (dB_len _ _ _ _)]
          unfold dB
          rw [if_pos rfl, enc_dec _ _ (pb_len _ _), gt_pb _ _ _ hr]
      · rw [if_neg hb, cc_stl W y n hn h16 (by omega)]
        unfold stl
        have hq : q = n - 1 := by omega
        rw [gt_mk _ _ hr, if_pos (by omega), hq]
theorem pb_eB (W b : List UInt8) (n : Nat) (hn : n = nb b.length) (i : Nat) (hi : i + 1 < n) : pb (ctsE W b) i = eB W b n i := by
  unfold ctsE
  rw [← hn]
  exact pb_take _ (eB_len W b n) n _ i (by omega) (by unfold nb at hn; omega)
theorem dX_ctsE (W b : List UInt8) (n : Nat) (hn : n = nb b.length) (h2 : 2 ≤ n) : dX W (ctsE W b) n = xorL (pb b (n - 1)) (cc W b (n - 1)) := by
  obtain ⟨m, rfl⟩ : ∃ m, n = m + 2 := ⟨n - 2, by omega⟩
  unfold dX
  rw [show m + 2 - 2 = m from rfl, pb_eB W b _ hn m (by omega)]
  unfold eB
  rw [if_neg (by omega), if_pos (Or.inl rfl)]
  show decL W (encL W (xorL (pb b (m + 1)) (cc W b (m + 1)))) = _
  exact dec_enc _ _ (xorL_len _ _)
theorem stl_ctsE (W b : List UInt8) (n : Nat) (hn : n = nb b.length) (h2 : 2 ≤ n) : stl W (ctsE W b) n = cc W b (n - 1) := by
  refine Eq.trans (mk_congr fun j hj => ?_) (mk_gt _ (cc_len W b (n - 1)))
  rw [ctsE_len]
  by_cases h : 16 * (n - 1) + j < b.length
  · rw [if_pos h]
    unfold ctsE
    rw [← hn, gt_take, if_pos h, gt_jB _ (eB_len W b n) n (n - 1) j (by omega) hj]
    unfold eB
    rw [if_neg (by omega), if_neg (by omega)]
  · rw [if_neg h, dX_ctsE W b n hn h2, gt_xorL _ _ _ hj, gt_pb _ _ _ hj, gt_over b _ (by omega), UInt8.zero_xor]
theorem yb_ctsE (W b : List UInt8) (n : Nat) (hn : n = nb b.length) (i : Nat) (hi : i + 2 ≤ n) : yb (ctsE W b) i = cc W b i := by
  cases i with
  | zero => rfl
  | succ i =>
    show pb (ctsE W b) i = _
    rw [pb_eB W b n hn i (by omega)]
    unfold eB
    rw [if_pos (by omega)]
theorem dB_ctsE (W b : List UInt8) (n : Nat) (hn : n = nb b.length) (h16 : 16 ≤ b.length) (i : Nat) (hi : i < n) : dB W (ctsE W b) n i = pb b i := by
  unfold dB
  by_cases h1 : n = 1
  · subst h1
    obtain rfl : i = 0 := by omega
    rw [if_pos rfl]
    have hp : pb (ctsE W b) 0 = encL W (pb b 0) := by
      unfold ctsE
      rw [← hn, pb_take _ (eB_len W b 1) 1 _ 0 (by omega) (by omega)]
      unfold eB
      rw [if_neg (by omega), if_pos (Or.inr rfl)]
      show encL W (xorL (pb b 0) z16) = _
      rw [xor_z16 _ (pb_len _ _)]
    rw [hp, dec_enc _ _ (pb_len _ _)]
  · rw [if_neg h1]
    by_cases ha : i + 2 < n
    · rw [if_pos ha, pb_eB W b n hn i (by omega), yb_ctsE W b n hn i (by omega)]
      unfold eB
      rw [if_pos ha]
      show xorL (decL W (encL W (xorL (pb b i) (cc W b i)))) _ = _
      rw [dec_enc _ _ (xorL_len _ _), xor_xorL _ _ (pb_len _ _)]
    · rw [if_neg ha]
      by_cases hb : i + 2 = n
      · rw [if_pos hb, stl_ctsE W b n hn (by omega), yb_ctsE W b n hn i (by omega), show n - 1 = i + 1 by omega]
        show xorL (decL W (encL W (xorL (pb b i) (cc W b i)))) _ = _
        rw [dec_enc _ _ (xorL_len _ _), xor_xorL _ _ (pb_len _ _)]
      · rw [if_neg hb, dX_ctsE W b n hn (by omega), stl_ctsE W b n hn (by omega), xor_xorL _ _ (pb_len _ _), show n - 1 = i by omega]
theorem ctsD_ctsE (W b : List UInt8) (h16 : 16 ≤ b.length) : ctsD W (ctsE W b) = b := by
  unfold ctsD
  rw [ctsE_len, jB_congr _ (pb b) _ fun i hi => dB_ctsE W b _ rfl h16 i hi]
  exact jB_pb b _ rfl
theorem ctsE_inj (W a b : List UInt8) (ha : 16 ≤ a.length) (hb : 16 ≤ b.length) : ctsE W a = ctsE W b ↔ a = b :=
  ⟨fun h => by rw [← ctsD_ctsE W a ha, h, ctsD_ctsE W b hb], fun h => by rw [h]⟩
end Go.Proofs.Ytgfmdjagggnfbaa.S9
