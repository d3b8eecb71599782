/-
  AES on lists of bytes: the S-box as a table, the words of a key, encryption, decryption, and that each undoes the other; without the program.
-/
import Derived.Test.YtgfmdjagggnfbaaAeM
namespace Go.Proofs.Ytgfmdjagggnfbaa.S7
set_option linter.unusedVariables false
set_option linter.unusedSimpArgs false

def SB : List UInt8 := [99, 124, 119, 123, 242, 107, 111, 197, 48, 1, 103, 43, 254, 215, 171, 118, 202, 130, 201, 125, 250, 89, 71, 240, 173, 212, 162, 175, 156, 164, 114, 192, 183, 253, 147, 38, 54, 63, 247, 204, 52, 165, 229, 241, 113, 216, 49, 21, 4, 199, 35, 195, 24, 150, 5, 154, 7, 18, 128, 226, 235, 39, 178, 117, 9, 131, 44, 26, 27, 110, 90, 160, 82, 59, 214, 179, 41, 227, 47, 132, 83, 209, 0, 237, 32, 252, 177, 91, 106, 203, 190, 57, 74, 76, 88, 207, 208, 239, 170, 251, 67, 77, 51, 133, 69, 249, 2, 127, 80, 60, 159, 168, 81, 163, 64, 143, 146, 157, 56, 245, 188, 182, 218, 33, 16, 255, 243, 210, 205, 12, 19, 236, 95, 151, 68, 23, 196, 167, 126, 61, 100, 93, 25, 115, 96, 129, 79, 220, 34, 42, 144, 136, 70, 238, 184, 20, 222, 94, 11, 219, 224, 50, 58, 10, 73, 6, 36, 92, 194, 211, 172, 98, 145, 149, 228, 121, 231, 200, 55, 109, 141, 213, 78, 169, 108, 86, 244, 234, 101, 122, 174, 8, 186, 120, 37, 46, 28, 166, 180, 198, 232, 221, 116, 31, 75, 189, 139, 138, 112, 62, 181, 102, 72, 3, 246, 14, 97, 53, 87, 185, 134, 193, 29, 158, 225, 248, 152, 17, 105, 217, 142, 148, 155, 30, 135, 233, 206, 85, 40, 223, 140, 161, 137, 13, 191, 230, 66, 104, 65, 153, 45, 15, 176, 84, 187, 22]
def SI : List UInt8 := [82, 9, 106, 213, 48, 54, 165, 56, 191, 64, 163, 158, 129, 243, 215, 251, 124, 227, 57, 130, 155, 47, 255, 135, 52, 142, 67, 68, 196, 222, 233, 203, 84, 123, 148, 50, 166, 194, 35, 61, 238, 76, 149, 11, 66, 250, 195, 78, 8, 46, 161, 102, 40, 217, 36, 178, 118, 91, 162, 73, 109, 139, 209, 37, 114, 248, 246, 100, 134, 104, 152, 22, 212, 164, 92, 204, 93, 101, 182, 146, 108, 112, 72, 80, 253, 237, 185, 218, 94, 21, 70, 87, 167, 141, 157, 132, 144, 216, 171, 0, 140, 188, 211, 10, 247, 228, 88, 5, 184, 179, 69, 6, 208, 44, 30, 143, 202, 63, 15, 2, 193, 175, 189, 3, 1, 19, 138, 107, 58, 145, 17, 65, 79, 103, 220, 234, 151, 242, 207, 206, 240, 180, 230, 115, 150, 172, 116, 34, 231, 173, 53, 133, 226, 249, 55, 232, 28, 117, 223, 110, 71, 241, 26, 113, 29, 41, 197, 137, 111, 183, 98, 14, 170, 24, 190, 27, 252, 86, 62, 75, 198, 210, 121, 32, 154, 219, 192, 254, 120, 205, 90, 244, 31, 221, 168, 51, 136, 7, 199, 49, 177, 18, 16, 89, 39, 128, 236, 95, 96, 81, 127, 169, 25, 181, 74, 13, 45, 229, 122, 159, 147, 201, 156, 239, 160, 224, 59, 77, 174, 42, 245, 176, 200, 235, 187, 60, 131, 83, 153, 97, 23, 43, 4, 126, 186, 119, 214, 38, 225, 105, 20, 99, 85, 33, 12, 125]
def sB (x : UInt8) : UInt8 := SB.getD x.toNat 0
def sI (x : UInt8) : UInt8 := SI.getD x.toNat 0
set_option maxRecDepth 100000 in
theorem sI_sB : ∀ x : UInt8, sI (sB x) = x := allU (by decide +kernel)
set_option maxRecDepth 100000 in
theorem sB_sI : ∀ x : UInt8, sB (sI x) = x := allU (by decide +kernel)
set_option maxRecDepth 100000 in
theorem sN_eq : ∀ x : UInt8, sN x.toNat = (sB x).toNat := allU (by decide +kernel)
set_option maxRecDepth 100000 in
theorem times2 : ∀ x : UInt8, timesN 2 x.toNat = (mulB 2 x).toNat := allU (by decide +kernel)
set_option maxRecDepth 100000 in
theorem times3 : ∀ x : UInt8, timesN 3 x.toNat = (mulB 3 x).toNat := allU (by decide +kernel)

/-- Byte i of a list; a block made of its bytes. -/
def gt (l : List UInt8) (i : Nat) : UInt8 := l.getD i 0
def mk (f : Nat → UInt8) : List UInt8 := (List.range 16).map f
theorem mk_len (f : Nat → UInt8) : (mk f).length = 16 := by simp [mk]
theorem gt_mk (f : Nat → UInt8) (i : Nat) (h : i < 16) : gt (mk f) i = f i := by simp [gt, mk, h]
theorem mk_gt (l : List UInt8) (h : l.length = 16) : mk (gt l) = l := by
  apply List.ext_getElem
  · rw [mk_len, h]
  · intro i h1 h2
    simp [mk, gt, h2]
theorem mk_congr {f g : Nat → UInt8} (h : ∀ i, i < 16 → f i = g i) : mk f = mk g := List.map_congr_left fun i hi => h i (by simpa using hi)

/-- Where a byte of the shifted block comes from, and back. -/
def shf (i : Nat) : Nat := (i + 4 * (i % 4)) % 16
def ush (i : Nat) : Nat := (i + 12 * (i % 4)) % 16
theorem shf_lt (i : Nat) : shf i < 16 := Nat.mod_lt _ (by omega)
theorem ush_lt (i : Nat) : ush i < 16 := Nat.mod_lt _ (by omega)
theorem shf_ush (i : Nat) (h : i < 16) : shf (ush i) = i := by unfold shf ush; omega
theorem ush_shf (i : Nat) (h : i < 16) : ush (shf i) = i := by unfold shf ush; omega
/-- The byte d places on in the same column. -/
def col (i d : Nat) : Nat := i / 4 * 4 + (i + d) % 4
theorem col_lt (i d : Nat) (h : i < 16) : col i d < 16 := by unfold col; omega
theorem col_col (i d e : Nat) : col (col i d) e = col i (d + e) := by unfold col; omega
theorem col_four (i d : Nat) : col i (d + 4) = col i d := by unfold col; omega
theorem col_zero (i : Nat) : col i 0 = i := by unfold col; omega

def subS (x : List UInt8) : List UInt8 := mk fun i => sB (gt x (shf i))
def unsubS (x : List UInt8) : List UInt8 := mk fun i => sI (gt x (ush i))
def mixS (x : List UInt8) : List UInt8 := mk fun i => mixB (gt x (col i 0)) (gt x (col i 1)) (gt x (col i 2)) (gt x (col i 3))
def unmixS (x : List UInt8) : List UInt8 := mk fun i => unmixB (gt x (col i 0)) (gt x (col i 1)) (gt x (col i 2)) (gt x (col i 3))
def addK (w : List UInt8) (r : Nat) (x : List UInt8) : List UInt8 := mk fun i => gt x i ^^^ gt w (16 * r + i)
theorem subS_len (x : List UInt8) : (subS x).length = 16 := mk_len _
theorem unsubS_len (x : List UInt8) : (unsubS x).length = 16 := mk_len _
theorem mixS_len (x : List UInt8) : (mixS x).length = 16 := mk_len _
theorem unmixS_len (x : List UInt8) : (unmixS x).length = 16 := mk_len _
theorem addK_len (w : List UInt8) (r : Nat) (x : List UInt8) : (addK w r x).length = 16 := mk_len _
theorem unsub_sub (x : List UInt8) (h : x.length = 16) : unsubS (subS x) = x := by
  refine Eq.trans (mk_congr fun i hi => ?_) (mk_gt x h)
  unfold subS
  rw [gt_mk _ _ (ush_lt i), sI_sB, shf_ush i hi]
theorem sub_unsub (x : List UInt8) (h : x.length = 16) : subS (unsubS x) = x := by
  refine Eq.trans (mk_congr fun i hi => ?_) (mk_gt x h)
  unfold unsubS
  rw [gt_mk _ _ (shf_lt i), sB_sI, ush_shf i hi]
theorem unmix_mixS (x : List UInt8) (h : x.length = 16) : unmixS (mixS x) = x := by
  refine Eq.trans (mk_congr fun i hi => ?_) (mk_gt x h)
  unfold mixS
  rw [gt_mk _ _ (col_lt i 0 hi), gt_mk _ _ (col_lt i 1 hi), gt_mk _ _ (col_lt i 2 hi), gt_mk _ _ (col_lt i 3 hi)]
  simp only [col_col, Nat.reduceAdd, show col i 4 = col i 0 from col_four i 0, show col i 5 = col i 1 from col_four i 1, show col i 6 = col i 2 from col_four i 2]
  rw [unmix_mix, col_zero]
theorem mix_unmixS (x : List UInt8) (h : x.length = 16) : mixS (unmixS x) = x := by
  refine Eq.trans (mk_congr fun i hi => ?_) (mk_gt x h)
  unfold unmixS
  rw [gt_mk _ _ (col_lt i 0 hi), gt_mk _ _ (col_lt i 1 hi), gt_mk _ _ (col_lt i 2 hi), gt_mk _ _ (col_lt i 3 hi)]
  simp only [col_col, Nat.reduceAdd, show col i 4 = col i 0 from col_four i 0, show col i 5 = col i 1 from col_four i 1, show col i 6 = col i 2 from col_four i 2]
  rw [mix_unmix, col_zero]
theorem add_add (w : List UInt8) (r : Nat) (x : List UInt8) (h : x.length = 16) : addK w r (addK w r x) = x := by
  refine Eq.trans (mk_congr fun i hi => ?_) (mk_gt x h)
  unfold addK
  rw [gt_mk _ _ hi, UInt8.xor_assoc, UInt8.xor_self, UInt8.xor_zero]

/-- A round, and the round undone; the last one does not mix. -/
def rndE (w : List UInt8) (r : Nat) (x : List UInt8) : List UInt8 := addK w r (if r < 14 then mixS (subS x) else subS x)
def rndD (w : List UInt8) (r : Nat) (x : List UInt8) : List UInt8 := unsubS (if r < 14 then unmixS (addK w r x) else addK w r x)
theorem rndE_len (w : List UInt8) (r : Nat) (x : List UInt8) : (rndE w r x).length = 16 := mk_len _
theorem rndD_len (w : List UInt8) (r : Nat) (x : List UInt8) : (rndD w r x).length = 16 := mk_len _
theorem rndD_rndE (w : List UInt8) (r : Nat) (x : List UInt8) (h : x.length = 16) : rndD w r (rndE w r x) = x := by
  unfold rndD rndE
  by_cases hr : r < 14
  · simp only [if_pos hr]
    rw [add_add _ _ _ (mixS_len _), unmix_mixS _ (subS_len _), unsub_sub x h]
  · simp only [if_neg hr]
    rw [add_add _ _ _ (subS_len _), unsub_sub x h]
theorem rndE_rndD (w : List UInt8) (r : Nat) (x : List UInt8) (h : x.length = 16) : rndE w r (rndD w r x) = x := by
  unfold rndD rndE
  by_cases hr : r < 14
  · simp only [if_pos hr]
    rw [sub_unsub _ (unmixS_len _), mix_unmixS _ (addK_len _ _ _), add_add w r x h]
  · simp only [if_neg hr]
    rw [sub_unsub _ (addK_len _ _ _), add_add w r x h]
/-- The block behind r rounds; what r rounds undone leave. -/
def encS (w b : List UInt8) : Nat → List UInt8
  | 0 => addK w 0 b
  | r + 1 => rndE w (r + 1) (encS w b r)
def decS (w : List UInt8) : Nat → List UInt8 → List UInt8
  | 0, x => addK w 0 x
  | r + 1, x => decS w r (rndD w (r + 1) x)
theorem encS_len (w b : List UInt8) (r : Nat) : (encS w b r).length = 16 := by cases r <;> exact mk_len _
theorem decS_len (w : List UInt8) (r : Nat) (x : List UInt8) : (decS w r x).length = 16 := by
  induction r generalizing x with
  | zero => exact mk_len _
  | succ r ih => exact ih _
theorem decS_encS (w b : List UInt8) (h : b.length = 16) (r : Nat) : decS w r (encS w b r) = b := by
  induction r with
  | zero => exact add_add w 0 b h
  | succ r ih => show decS w r (rndD w (r + 1) (rndE w (r + 1) (encS w b r))) = b; rw [rndD_rndE _ _ _ (encS_len _ _ _), ih]
theorem encS_decS (w : List UInt8) (r : Nat) (x : List UInt8) (h : x.length = 16) : encS w (decS w r x) r = x := by
  induction r generalizing x with
  | zero => exact add_add w 0 x h
  | succ r ih => show rndE w (r + 1) (encS w (decS w r (rndD w (r + 1) x)) r) = x; rw [ih _ (rndD_len _ _ _), rndE_rndD _ _ _ h]
def encL (w b : List UInt8) : List UInt8 := encS w b 14
def decL (w b : List UInt8) : List UInt8 := decS w 14 b
theorem dec_enc (w b : List UInt8) (h : b.length = 16) : decL w (encL w b) = b := decS_encS w b h 14
theorem enc_dec (w b : List UInt8) (h : b.length = 16) : encL w (decL w b) = b := encS_decS w 14 b h
theorem encL_len (w b : List UInt8) : (encL w b).length = 16 := encS_len _ _ _
theorem decL_len (w b : List UInt8) : (decL w b).length = 16 := decS_len _ _ _
theorem enc_apart (w a b : List UInt8) (ha : a.length = 16) (hb : b.length = 16) : encL w a = encL w b ↔ a = b :=
  ⟨fun h => by rw [← dec_enc w a ha, h, dec_enc w b hb], fun h => by rw [h]⟩

/-- x to the power of m. -/
def pw : Nat → UInt8
  | 0 => 1
  | m + 1 => mulB 2 (pw m)
/-- What is XORed onto word i - 8, of the words so far. -/
def nxt (w : List UInt8) (i : Nat) : List UInt8 :=
  if i % 8 = 0 then [sB (gt w (4 * i - 3)) ^^^ pw (i / 8 - 1), sB (gt w (4 * i - 2)), sB (gt w (4 * i - 1)), sB (gt w (4 * i - 4))]
  else if i % 8 = 4 then [sB (gt w (4 * i - 4)), sB (gt w (4 * i - 3)), sB (gt w (4 * i - 2)), sB (gt w (4 * i - 1))]
  else [gt w (4 * i - 4), gt w (4 * i - 3), gt w (4 * i - 2), gt w (4 * i - 1)]
theorem nxt_len (w : List UInt8) (i : Nat) : (nxt w i).length = 4 := by
  unfold nxt
  split
  · rfl
  · split <;> rfl
def word (w : List UInt8) (i : Nat) : List UInt8 := (List.range 4).map fun k => gt w (4 * i - 32 + k) ^^^ gt (nxt w i) k
theorem word_len (w : List UInt8) (i : Nat) : (word w i).length = 4 := by simp [word]
/-- The first 8 + n words of a key. -/
def ks (k : List UInt8) : Nat → List UInt8
  | 0 => k
  | n + 1 => ks k n ++ word (ks k n) (8 + n)
theorem ks_len (k : List UInt8) (h : k.length = 32) (n : Nat) : (ks k n).length = 4 * (8 + n) := by
  induction n with
  | zero => exact h
  | succ n ih => show (ks k n ++ word (ks k n) (8 + n)).length = _; rw [List.length_append, ih, word_len]; omega
def keysL (k : List UInt8) : List UInt8 := ks k 52
theorem keysL_len (k : List UInt8) (h : k.length = 32) : (keysL k).length = 240 := ks_len k h 52
/-- The document's example. -/
def ex1 : List UInt8 := (List.range 32).map UInt8.ofNat
def ex2 : List UInt8 := (List.range 16).map fun i => UInt8.ofNat (17 * i)
set_option maxRecDepth 100000 in
theorem example_enc : encL (keysL ex1) ex2 = [0x8e, 0xa2, 0xb7, 0xca, 0x51, 0x67, 0x45, 0xbf, 0xea, 0xfc, 0x49, 0x90, 0x4b, 0x49, 0x60, 0x89] := by decide +kernel
end Go.Proofs.Ytgfmdjagggnfbaa.S7
