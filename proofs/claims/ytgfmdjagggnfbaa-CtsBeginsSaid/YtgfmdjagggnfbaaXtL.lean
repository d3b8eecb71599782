/-
  XTS on lists of bytes: the tweaks, blocks one behind another, encryption, decryption, and that each undoes the other; without the program.
-/
import Derived.Test.YtgfmdjagggnfbaaAeL
namespace Go.Proofs.Ytgfmdjagggnfbaa.S8
open Go.Proofs.Ytgfmdjagggnfbaa.S7
set_option linter.unusedVariables false
set_option linter.unusedSimpArgs false

/-- A number in 16 bytes, the least significant first. -/
def numL (n : Nat) : List UInt8 := mk fun i => UInt8.ofNat (n / 256 ^ i % 256)
theorem numL_len (n : Nat) : (numL n).length = 16 := mk_len _
/-- What is carried into byte i when a tweak is doubled; that byte doubled. -/
def cr (t : List UInt8) : Nat → Nat
  | 0 => 0
  | i + 1 => (2 * (gt t i).toNat + cr t i) / 256
def dbF (t : List UInt8) (i : Nat) : UInt8 := UInt8.ofNat ((2 * (gt t i).toNat + cr t i) % 256)
theorem cr_le (t : List UInt8) (i : Nat) : cr t i ≤ 1 := by
  induction i with
  | zero => simp [cr]
  | succ i ih =>
    have := (gt t i).toNat_lt
    show (2 * (gt t i).toNat + cr t i) / 256 ≤ 1
    omega
def dblT (t : List UInt8) : List UInt8 := if cr t 16 = 1 then (mk (dbF t)).set 0 (dbF t 0 ^^^ 135) else mk (dbF t)
theorem dblT_len (t : List UInt8) : (dblT t).length = 16 := by
  unfold dblT
  split
  · rw [List.length_set]; exact mk_len _
  · exact mk_len _
/-- The tweak of a unit's block. -/
def tw (W : List UInt8) (n : Nat) : Nat → List UInt8
  | 0 => encL W (numL n)
  | i + 1 => dblT (tw W n i)
theorem tw_len (W : List UInt8) (n i : Nat) : (tw W n i).length = 16 := by
  cases i with
  | zero => exact encL_len _ _
  | succ i => exact dblT_len _
def xorL (a b : List UInt8) : List UInt8 := mk fun i => gt a i ^^^ gt b i
theorem xorL_len (a b : List UInt8) : (xorL a b).length = 16 := mk_len _
theorem xor_xorL (a t : List UInt8) (h : a.length = 16) : xorL (xorL a t) t = a := by
  refine Eq.trans (mk_congr fun i hi => ?_) (mk_gt a h)
  unfold xorL
  rw [gt_mk _ _ hi, UInt8.xor_assoc, UInt8.xor_self, UInt8.xor_zero]
def blkE (W t x : List UInt8) : List UInt8 := xorL (encL W (xorL x t)) t
def blkD (W t x : List UInt8) : List UInt8 := xorL (decL W (xorL x t)) t
theorem blkE_len (W t x : List UInt8) : (blkE W t x).length = 16 := mk_len _
theorem blkD_len (W t x : List UInt8) : (blkD W t x).length = 16 := mk_len _
theorem blkD_blkE (W t x : List UInt8) (h : x.length = 16) : blkD W t (blkE W t x) = x := by
  unfold blkD blkE
  rw [xor_xorL _ _ (encL_len _ _), dec_enc _ _ (xorL_len _ _), xor_xorL _ _ h]
theorem blkE_blkD (W t x : List UInt8) (h : x.length = 16) : blkE W t (blkD W t x) = x := by
  unfold blkD blkE
  rw [xor_xorL _ _ (decL_len _ _), enc_dec _ _ (xorL_len _ _), xor_xorL _ _ h]
theorem blkE_apart (W t x y : List UInt8) (hx : x.length = 16) (hy : y.length = 16) : blkE W t x = blkE W t y ↔ x = y :=
  ⟨fun h => by rw [← blkD_blkE W t x hx, h, blkD_blkE W t y hy], fun h => by rw [h]⟩

/-- Block i of a list; the first k blocks, each changed by f. -/
def bk (b : List UInt8) (i : Nat) : List UInt8 := (b.drop (16 * i)).take 16
theorem bk_len (b : List UInt8) (i : Nat) (h : 16 * i + 16 ≤ b.length) : (bk b i).length = 16 := by simp [bk]; omega
theorem gt_bk (b : List UInt8) (i j : Nat) (hj : j < 16) : gt (bk b i) j = gt b (16 * i + j) := by
  simp only [bk, gt, List.getD_eq_getElem?_getD, List.getElem?_take, if_pos hj, List.getElem?_drop]
def mB (f : Nat → List UInt8 → List UInt8) (b : List UInt8) : Nat → List UInt8
  | 0 => []
  | k + 1 => mB f b k ++ f k (bk b k)
theorem mB_len (f : Nat → List UInt8 → List UInt8) (hf : ∀ i x, (f i x).length = 16) (b : List UInt8) (k : Nat) : (mB f b k).length = 16 * k := by
  induction k with
  | zero => rfl
  | succ k ih => show (mB f b k ++ _).length = _; rw [List.length_append, ih, hf]; omega
theorem bk_mB (f : Nat → List UInt8 → List UInt8) (hf : ∀ i x, (f i x).length = 16) (b : List UInt8) (k i : Nat) (h : i < k) : bk (mB f b k) i = f i (bk b i) := by
  induction k with
  | zero => omega
  | succ k ih =>
    have hl := mB_len f hf b k
    show bk (mB f b k ++ f k (bk b k)) i = _
    by_cases hi : i = k
    · subst hi
      unfold bk
      rw [show 16 * i = (mB f b i).length by rw [hl], List.drop_left, List.take_of_length_le (by rw [hf]; omega)]
    · rw [← ih (by omega)]
      unfold bk
      rw [List.drop_append_of_le_length (by omega), List.take_append_of_le_length (by rw [List.length_drop]; omega)]
theorem mB_congr (f : Nat → List UInt8 → List UInt8) (b c : List UInt8) (k : Nat) (h : ∀ i, i < k → bk b i = bk c i) : mB f b k = mB f c k := by
  induction k with
  | zero => rfl
  | succ k ih => show mB f b k ++ f k (bk b k) = mB f c k ++ f k (bk c k); rw [ih (fun i hi => h i (by omega)), h k (by omega)]
theorem mB_id (b : List UInt8) (k : Nat) (h : 16 * k ≤ b.length) : mB (fun _ x => x) b k = b.take (16 * k) := by
  induction k with
  | zero => rfl
  | succ k ih => show mB (fun _ x => x) b k ++ bk b k = _; rw [ih (by omega)]; unfold bk; rw [show 16 * (k + 1) = 16 * k + 16 by omega, List.take_add]
theorem mB_mB (f g : Nat → List UInt8 → List UInt8) (hf : ∀ i x, (f i x).length = 16) (hg : ∀ i x, x.length = 16 → g i (f i x) = x) (b : List UInt8) (k : Nat) (h : 16 * k ≤ b.length) : mB g (mB f b k) k = b.take (16 * k) := by
  have key : ∀ j, j ≤ k → mB g (mB f b k) j = mB (fun _ x => x) b j := by
    intro j hj
    induction j with
    | zero => rfl
    | succ j ih =>
      show mB g (mB f b k) j ++ g j (bk (mB f b k) j) = mB (fun _ x => x) b j ++ bk b j
      rw [ih (by omega), bk_mB f hf b k j (by omega), hg j _ (bk_len b j (by omega))]
  rw [key k (Nat.le_refl _), mB_id b k h]
theorem mB_take (f : Nat → List UInt8 → List UInt8) (hf : ∀ i x, (f i x).length = 16) (b : List UInt8) (k j : Nat) (h : j ≤ k) : (mB f b k).take (16 * j) = mB f b j := by
  induction k with
  | zero => obtain rfl : j = 0 := by omega
            rfl
  | succ k ih =>
    by_cases hj : j = k + 1
    · subst hj
      exact List.take_of_length_le (by rw [mB_len f hf]; omega)
    · show (mB f b k ++ f k (bk b k)).take (16 * j) = _
      rw [List.take_append_of_le_length (by rw [mB_len f hf]; omega), ih (by omega)]
theorem bk_take (b : List UInt8) (i j : Nat) (h : i < j) : bk (b.take (16 * j)) i = bk b i := by
  unfold bk
  rw [List.drop_take, List.take_take]
  congr 1
  omega
/-- A unit encrypted, decrypted: w1 and w2 are the words of its two keys. -/
def fE (w1 w2 : List UInt8) (n : Nat) (i : Nat) (x : List UInt8) : List UInt8 := blkE w1 (tw w2 n i) x
def fD (w1 w2 : List UInt8) (n : Nat) (i : Nat) (x : List UInt8) : List UInt8 := blkD w1 (tw w2 n i) x
theorem fE_len (w1 w2 : List UInt8) (n i : Nat) (x : List UInt8) : (fE w1 w2 n i x).length = 16 := blkE_len _ _ _
theorem fD_len (w1 w2 : List UInt8) (n i : Nat) (x : List UInt8) : (fD w1 w2 n i x).length = 16 := blkD_len _ _ _
theorem fD_fE (w1 w2 : List UInt8) (n i : Nat) (x : List UInt8) (h : x.length = 16) : fD w1 w2 n i (fE w1 w2 n i x) = x := blkD_blkE _ _ x h
theorem fE_fD (w1 w2 : List UInt8) (n i : Nat) (x : List UInt8) (h : x.length = 16) : fE w1 w2 n i (fD w1 w2 n i x) = x := blkE_blkD _ _ x h
def xtE (w1 w2 : List UInt8) (n : Nat) (b : List UInt8) (k : Nat) : List UInt8 := mB (fE w1 w2 n) b k
def xtD (w1 w2 : List UInt8) (n : Nat) (b : List UInt8) (k : Nat) : List UInt8 := mB (fD w1 w2 n) b k
theorem xtE_len (w1 w2 : List UInt8) (n : Nat) (b : List UInt8) (k : Nat) : (xtE w1 w2 n b k).length = 16 * k := mB_len _ (fE_len w1 w2 n) b k
theorem xtD_len (w1 w2 : List UInt8) (n : Nat) (b : List UInt8) (k : Nat) : (xtD w1 w2 n b k).length = 16 * k := mB_len _ (fD_len w1 w2 n) b k
theorem xtD_xtE (w1 w2 : List UInt8) (n : Nat) (b : List UInt8) (k : Nat) (h : b.length = 16 * k) : xtD w1 w2 n (xtE w1 w2 n b k) k = b :=
  (mB_mB (fE w1 w2 n) (fD w1 w2 n) (fE_len w1 w2 n) (fD_fE w1 w2 n) b k (by omega)).trans (List.take_of_length_le (by omega))
theorem xtE_xtD (w1 w2 : List UInt8) (n : Nat) (b : List UInt8) (k : Nat) (h : b.length = 16 * k) : xtE w1 w2 n (xtD w1 w2 n b k) k = b :=
  (mB_mB (fD w1 w2 n) (fE w1 w2 n) (fD_len w1 w2 n) (fE_fD w1 w2 n) b k (by omega)).trans (List.take_of_length_le (by omega))
theorem xtE_block (w1 w2 : List UInt8) (n : Nat) (b : List UInt8) (k i : Nat) (h : i < k) : bk (xtE w1 w2 n b k) i = fE w1 w2 n i (bk b i) := bk_mB _ (fE_len w1 w2 n) b k i h
theorem xtE_take (w1 w2 : List UInt8) (n : Nat) (b : List UInt8) (k j : Nat) (h : j ≤ k) : (xtE w1 w2 n b k).take (16 * j) = xtE w1 w2 n (b.take (16 * j)) j :=
  (mB_take _ (fE_len w1 w2 n) b k j h).trans (mB_congr _ _ _ j fun i hi => (bk_take b i j hi).symm)
theorem xtD_take (w1 w2 : List UInt8) (n : Nat) (b : List UInt8) (k j : Nat) (h : j ≤ k) : (xtD w1 w2 n b k).take (16 * j) = xtD w1 w2 n (b.take (16 * j)) j :=
  (mB_take _ (fD_len w1 w2 n) b k j h).trans (mB_congr _ _ _ j fun i hi => (bk_take b i j hi).symm)
theorem fE_apart (w1 w2 : List UInt8) (n i : Nat) (x y : List UInt8) (hx : x.length = 16) (hy : y.length = 16) : fE w1 w2 n i x = fE w1 w2 n i y ↔ x = y := blkE_apart _ _ x y hx hy
/-- The document's example. -/
def z16 : List UInt8 := List.replicate 16 0
def z32 : List UInt8 := List.replicate 32 0
theorem tw_zero : tw (keysL z32) 0 0 = encL (keysL z32) z16 := by
  show encL (keysL z32) (numL 0) = _
  rw [show numL 0 = z16 by decide +kernel]
set_option maxRecDepth 100000 in
theorem example_xts : xtE (keysL z32) (keysL z32) 0 z16 1 = [0xd4, 0x56, 0xb4, 0xfc, 0x2e, 0x62, 0x0b, 0xba, 0x6f, 0xfb, 0xed, 0x27, 0xb9, 0x56, 0xc9, 0x54] := by decide +kernel
end Go.Proofs.Ytgfmdjagggnfbaa.S8
