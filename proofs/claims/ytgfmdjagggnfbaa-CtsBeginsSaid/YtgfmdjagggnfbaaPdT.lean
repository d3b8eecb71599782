/-
  Tables on lists: the powers of x + 1, and S filled by them.
-/
import Derived.Test.YtgfmdjagggnfbaaPdA
namespace Go.Proofs.Ytgfmdjagggnfbaa.S7
open Go.RowKit
set_option linter.unusedVariables false
set_option linter.unusedSimpArgs false

/-- The powers of x + 1, and which power a byte is. -/
def PW : List UInt8 := [1, 3, 5, 15, 17, 51, 85, 255, 26, 46, 114, 150, 161, 248, 19, 53, 95, 225, 56, 72, 216, 115, 149, 164, 247, 2, 6, 10, 30, 34, 102, 170, 229, 52, 92, 228, 55, 89, 235, 38, 106, 190, 217, 112, 144, 171, 230, 49, 83, 245, 4, 12, 20, 60, 68, 204, 79, 209, 104, 184, 211, 110, 178, 205, 76, 212, 103, 169, 224, 59, 77, 215, 98, 166, 241, 8, 24, 40, 120, 136, 131, 158, 185, 208, 107, 189, 220, 127, 129, 152, 179, 206, 73, 219, 118, 154, 181, 196, 87, 249, 16, 48, 80, 240, 11, 29, 39, 105, 187, 214, 97, 163, 254, 25, 43, 125, 135, 146, 173, 236, 47, 113, 147, 174, 233, 32, 96, 160, 251, 22, 58, 78, 210, 109, 183, 194, 93, 231, 50, 86, 250, 21, 63, 65, 195, 94, 226, 61, 71, 201, 64, 192, 91, 237, 44, 116, 156, 191, 218, 117, 159, 186, 213, 100, 172, 239, 42, 126, 130, 157, 188, 223, 122, 142, 137, 128, 155, 182, 193, 88, 232, 35, 101, 175, 234, 37, 111, 177, 200, 67, 197, 84, 252, 31, 33, 99, 165, 244, 7, 9, 27, 45, 119, 153, 176, 203, 70, 202, 69, 207, 74, 222, 121, 139, 134, 145, 168, 227, 62, 66, 198, 81, 243, 14, 18, 54, 90, 238, 41, 123, 141, 140, 143, 138, 133, 148, 167, 242, 13, 23, 57, 75, 221, 124, 132, 151, 162, 253, 28, 36, 108, 180, 199, 82, 246, 1]
def LG : List Nat := [0, 0, 25, 1, 50, 2, 26, 198, 75, 199, 27, 104, 51, 238, 223, 3, 100, 4, 224, 14, 52, 141, 129, 239, 76, 113, 8, 200, 248, 105, 28, 193, 125, 194, 29, 181, 249, 185, 39, 106, 77, 228, 166, 114, 154, 201, 9, 120, 101, 47, 138, 5, 33, 15, 225, 36, 18, 240, 130, 69, 53, 147, 218, 142, 150, 143, 219, 189, 54, 208, 206, 148, 19, 92, 210, 241, 64, 70, 131, 56, 102, 221, 253, 48, 191, 6, 139, 98, 179, 37, 226, 152, 34, 136, 145, 16, 126, 110, 72, 195, 163, 182, 30, 66, 58, 107, 40, 84, 250, 133, 61, 186, 43, 121, 10, 21, 155, 159, 94, 202, 78, 212, 172, 229, 243, 115, 167, 87, 175, 88, 168, 80, 244, 234, 214, 116, 79, 174, 233, 213, 231, 230, 173, 232, 44, 215, 117, 122, 235, 22, 11, 245, 89, 203, 95, 176, 156, 169, 81, 160, 127, 12, 246, 111, 23, 196, 73, 236, 216, 67, 31, 45, 164, 118, 123, 183, 204, 187, 62, 90, 251, 96, 177, 134, 59, 82, 161, 108, 170, 85, 41, 157, 151, 178, 135, 144, 97, 190, 220, 252, 188, 149, 207, 205, 55, 63, 91, 209, 83, 57, 132, 60, 65, 162, 109, 71, 20, 42, 158, 93, 86, 242, 211, 171, 68, 17, 146, 217, 35, 32, 46, 137, 180, 124, 184, 38, 119, 153, 227, 165, 103, 74, 237, 222, 197, 49, 254, 24, 13, 99, 140, 128, 192, 247, 112, 7]
def pwr (t : Nat) : UInt8 := PW.getD t 0
def lg (j : Nat) : Nat := LG.getD j 0
def inB (t : Nat) : UInt8 := pwr ((255 - t) % 255)
set_option maxRecDepth 100000 in
theorem pwr_next : ∀ t : Fin 255, pwr (t.val + 1) = pwr t.val ^^^ dbl (pwr t.val) := by decide +kernel
set_option maxRecDepth 100000 in
theorem pwr_s : ∀ t : Fin 255, scB (inB t.val) = gt SB (pwr t.val).toNat := by decide +kernel
set_option maxRecDepth 100000 in
theorem lg_pwr : ∀ t : Fin 255, lg (pwr t.val).toNat = t.val := by decide +kernel
set_option maxRecDepth 100000 in
theorem pwr_lg : ∀ j : Fin 256, j.val ≠ 0 → (pwr (lg j.val)).toNat = j.val ∧ lg j.val < 255 := by decide +kernel
set_option maxRecDepth 100000 in
theorem pwr_ne : ∀ t : Fin 255, (pwr t.val).toNat ≠ 0 := by decide +kernel
theorem sc_zero : scB 0 = gt SB 0 := by decide +kernel
/-- A row of n bytes, of which those that p picks are f's, the others nought. -/
def pk (n : Nat) (f : Nat → UInt8) (p : Nat → Bool) : List UInt8 := (List.range n).map fun i => if p i then f i else 0
theorem pk_len (n : Nat) (f : Nat → UInt8) (p : Nat → Bool) : (pk n f p).length = n := by simp [pk]
theorem pk_none (n : Nat) (f : Nat → UInt8) : pk n f (fun _ => false) = List.replicate n 0 := by
  apply List.ext_getElem
  · simp [pk]
  · intro i h1 h2; simp [pk]
theorem pk_all (n : Nat) (f : Nat → UInt8) (p : Nat → Bool) (l : List UInt8) (hl : l.length = n) (h : ∀ i, i < n → p i = true ∧ gt l i = f i) : pk n f p = l := by
  apply List.ext_getElem
  · rw [pk_len, hl]
  · intro i h1 h2
    have hi : i < n := by rw [← hl]; exact h2
    obtain ⟨h3, h4⟩ := h i hi
    simp only [pk, List.getElem_map, List.getElem_range, h3, if_true, ← h4]
    simp [gt, h2]
theorem pk_set (n : Nat) (f : Nat → UInt8) (p q : Nat → Bool) (k : Nat) (x : UInt8) (hx : x = f k) (hq : ∀ i, i < n → q i = (p i || decide (i = k))) : (pk n f p).set k x = pk n f q := by
  apply List.ext_getElem
  · simp [pk]
  · intro i h1 h2
    have hi : i < n := by simpa [pk] using h2
    rw [List.getElem_set]
    simp only [pk, List.getElem_map, List.getElem_range, hq i hi]
    by_cases h : k = i
    · subst h; simp [hx]
    · rw [if_neg h]
      have : decide (i = k) = false := by simp; omega
      rw [this, Bool.or_false]
theorem gt_pk (n : Nat) (f : Nat → UInt8) (p : Nat → Bool) (i : Nat) (h : i < n) : gt (pk n f p) i = if p i then f i else 0 := by simp [gt, pk, h]
def pwT (t : Nat) : List UInt8 := pk 255 pwr fun i => decide (i < t)
def sbT (t : Nat) : List UInt8 := pk 256 (gt SB) fun j => decide (j = 0 ∨ lg j < t)
theorem pwT_zero : pwT 0 = List.replicate 255 0 := by
  rw [← pk_none 255 pwr]
  unfold pwT
  congr 1
theorem pwT_next (t : Nat) (ht : t < 255) : (pwT t).set t (pwr t) = pwT (t + 1) := pk_set _ _ _ _ _ _ rfl fun i hi => by
  by_cases h : i = t
  · subst h; simp
  · simp [h]; omega
theorem gt_pwT (t : Nat) (ht : t < 255) : gt (pwT 255) t = pwr t := by unfold pwT; rw [gt_pk _ _ _ _ ht]; simp [ht]
theorem sbT_zero : (List.replicate 256 (0 : UInt8)).set 0 (scB 0) = sbT 0 := by
  rw [← pk_none 256 (gt SB)]
  exact pk_set _ _ _ _ _ _ sc_zero fun i hi => by simp
theorem sbT_next (t : Nat) (ht : t < 255) : (sbT t).set (pwr t).toNat (scB (inB t)) = sbT (t + 1) := pk_set _ _ _ _ _ _ (pwr_s ⟨t, ht⟩) fun j hj => by
  by_cases h : j = (pwr t).toNat
  · rw [h]; simp [lg_pwr ⟨t, ht⟩]
  · by_cases h0 : j = 0
    · simp [h0]
    · have h1 : lg j ≠ t := fun e => h (by have := (pwr_lg ⟨j, hj⟩ h0).1; rw [← e]; exact this.symm)
      simp [h0, h]; omega
theorem sbT_top : sbT 255 = SB := pk_all _ _ _ _ (by decide +kernel) fun j hj => by
  refine ⟨?_, rfl⟩
  by_cases h0 : j = 0
  · simp [h0]
  · simp [(pwr_lg ⟨j, hj⟩ h0).2]

end Go.Proofs.Ytgfmdjagggnfbaa.S7
