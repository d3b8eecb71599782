/-
  AES on plain bytes: products, the S-box, rounds forward and back, without the program.
-/
import Derived.WalkKit
namespace Go.Proofs.Ytgfmdjagggnfbaa.S7
set_option linter.unusedVariables false
set_option linter.unusedSimpArgs false

/-- Twice a byte, as a polynomial. -/
def dbl (x : UInt8) : UInt8 := (x <<< 1) ^^^ (if 128 ≤ x then 27 else 0)
theorem top_bit (x : UInt8) : (128 ≤ x) ↔ x.toBitVec.msb = true := by
  rw [UInt8.le_iff_toBitVec_le, BitVec.le_def, BitVec.msb_eq_decide]
  simp
theorem xor_twice (a b c : UInt8) : a ^^^ b = (a ^^^ c) ^^^ (b ^^^ c) := by
  rw [UInt8.xor_assoc, ← UInt8.xor_assoc c, UInt8.xor_comm c b, UInt8.xor_assoc b, UInt8.xor_self, UInt8.xor_zero]
theorem dbl_xor (x y : UInt8) : dbl (x ^^^ y) = dbl x ^^^ dbl y := by
  unfold dbl
  simp only [top_bit, UInt8.toBitVec_xor, BitVec.msb_xor]
  have hs : (x ^^^ y) <<< 1 = (x <<< 1) ^^^ (y <<< 1) := by
    apply UInt8.toBitVec_inj.1
    simp [BitVec.shiftLeft_xor_distrib]
  rw [hs]
  cases x.toBitVec.msb <;> cases y.toBitVec.msb <;> simp
  · ac_rfl
  · ac_rfl
  · exact xor_twice _ _ _
theorem allU {P : UInt8 → Prop} [DecidablePred P] (h : ∀ n : Fin 256, P (UInt8.ofNat n.val)) : ∀ x, P x := by
  intro x
  have := h ⟨x.toNat, x.toNat_lt⟩
  simpa using this

/-- A byte times a small number, by its bits. -/
def mulB (n : Nat) (x : UInt8) : UInt8 :=
  (if n % 2 = 1 then x else 0) ^^^ (if n / 2 % 2 = 1 then dbl x else 0) ^^^ (if n / 4 % 2 = 1 then dbl (dbl x) else 0) ^^^ (if n / 8 % 2 = 1 then dbl (dbl (dbl x)) else 0)
theorem ite_xor (p : Prop) [Decidable p] (x y : UInt8) : (if p then x ^^^ y else 0) = (if p then x else 0) ^^^ (if p then y else 0) := by
  by_cases h : p <;> simp [h]
theorem xor_pairs (a b c d e f g h : UInt8) : (a ^^^ b) ^^^ (c ^^^ d) ^^^ (e ^^^ f) ^^^ (g ^^^ h) = (a ^^^ c ^^^ e ^^^ g) ^^^ (b ^^^ d ^^^ f ^^^ h) := by ac_rfl
theorem mul_xor (n : Nat) (x y : UInt8) : mulB n (x ^^^ y) = mulB n x ^^^ mulB n y := by
  unfold mulB
  rw [dbl_xor, dbl_xor, dbl_xor, ite_xor, ite_xor, ite_xor, ite_xor, xor_pairs]

/-- One byte of a mixed column, of its four bytes from this place on. -/
def mixB (a b c d : UInt8) : UInt8 := mulB 2 a ^^^ mulB 3 b ^^^ c ^^^ d
def unmixB (a b c d : UInt8) : UInt8 := mulB 14 a ^^^ mulB 11 b ^^^ mulB 13 c ^^^ mulB 9 d
theorem um1 : ∀ x : UInt8, mulB 14 (mulB 2 x) ^^^ (mulB 11 x ^^^ (mulB 13 x ^^^ mulB 9 (mulB 3 x))) = x := allU (by decide +kernel)
theorem um2 : ∀ x : UInt8, mulB 14 (mulB 3 x) ^^^ (mulB 11 (mulB 2 x) ^^^ (mulB 13 x ^^^ mulB 9 x)) = 0 := allU (by decide +kernel)
theorem um3 : ∀ x : UInt8, mulB 14 x ^^^ (mulB 11 (mulB 3 x) ^^^ (mulB 13 (mulB 2 x) ^^^ mulB 9 x)) = 0 := allU (by decide +kernel)
theorem um4 : ∀ x : UInt8, mulB 14 x ^^^ (mulB 11 x ^^^ (mulB 13 (mulB 3 x) ^^^ mulB 9 (mulB 2 x))) = 0 := allU (by decide +kernel)
theorem mu1 : ∀ x : UInt8, mulB 2 (mulB 14 x) ^^^ (mulB 3 (mulB 9 x) ^^^ (mulB 13 x ^^^ mulB 11 x)) = x := allU (by decide +kernel)
theorem mu2 : ∀ x : UInt8, mulB 2 (mulB 11 x) ^^^ (mulB 3 (mulB 14 x) ^^^ (mulB 9 x ^^^ mulB 13 x)) = 0 := allU (by decide +kernel)
theorem mu3 : ∀ x : UInt8, mulB 2 (mulB 13 x) ^^^ (mulB 3 (mulB 11 x) ^^^ (mulB 14 x ^^^ mulB 9 x)) = 0 := allU (by decide +kernel)
theorem mu4 : ∀ x : UInt8, mulB 2 (mulB 9 x) ^^^ (mulB 3 (mulB 13 x) ^^^ (mulB 11 x ^^^ mulB 14 x)) = 0 := allU (by decide +kernel)
theorem xor4 {x1 x2 x3 x4 y1 y2 y3 y4 z1 z2 z3 z4 u1 u2 u3 u4 a : UInt8} (h1 : x1 ^^^ (y1 ^^^ (z1 ^^^ u1)) = a) (h2 : x2 ^^^ (y2 ^^^ (z2 ^^^ u2)) = 0) (h3 : x3 ^^^ (y3 ^^^ (z3 ^^^ u3)) = 0) (h4 : x4 ^^^ (y4 ^^^ (z4 ^^^ u4)) = 0) :
    (x1 ^^^ x2 ^^^ x3 ^^^ x4) ^^^ (y1 ^^^ y2 ^^^ y3 ^^^ y4) ^^^ (z1 ^^^ z2 ^^^ z3 ^^^ z4) ^^^ (u1 ^^^ u2 ^^^ u3 ^^^ u4) = a := by
  have e : (x1 ^^^ x2 ^^^ x3 ^^^ x4) ^^^ (y1 ^^^ y2 ^^^ y3 ^^^ y4) ^^^ (z1 ^^^ z2 ^^^ z3 ^^^ z4) ^^^ (u1 ^^^ u2 ^^^ u3 ^^^ u4) = (x1 ^^^ (y1 ^^^ (z1 ^^^ u1))) ^^^ (x2 ^^^ (y2 ^^^ (z2 ^^^ u2))) ^^^ (x3 ^^^ (y3 ^^^ (z3 ^^^ u3))) ^^^ (x4 ^^^ (y4 ^^^ (z4 ^^^ u4))) := by ac_rfl
  rw [e, h1, h2, h3, h4]
  simp
/-- Mixing undone, and the other way round. -/
theorem unmix_mix (a b c d : UInt8) : unmixB (mixB a b c d) (mixB b c d a) (mixB c d a b) (mixB d a b c) = a := by
  unfold unmixB mixB
  simp only [mul_xor]
  refine Eq.trans ?_ (xor4 (um1 a) (um2 b) (um3 c) (um4 d))
  ac_rfl
theorem mix_unmix (a b c d : UInt8) : mixB (unmixB a b c d) (unmixB b c d a) (unmixB c d a b) (unmixB d a b c) = a := by
  unfold unmixB mixB
  simp only [mul_xor]
  refine Eq.trans ?_ (xor4 (mu1 a) (mu2 b) (mu3 c) (mu4 d))
  ac_rfl
/-- One step of a product: by bit 7 - j of a. -/
def tmStep (a b d p : Nat) : Nat := if a / d % 2 = 1 then (if 256 ≤ p * 2 then (p * 2) ^^^ 283 else p * 2) ^^^ b else if 256 ≤ p * 2 then (p * 2) ^^^ 283 else p * 2
def tmN (a b : Nat) : Nat → Nat
  | 0 => 0
  | j + 1 => tmStep a b (128 / 2 ^ j) (tmN a b j)
def timesN (a b : Nat) : Nat := tmN a b 8
theorem red_lt : ∀ p, p < 256 → (if 256 ≤ p * 2 then (p * 2) ^^^ 283 else p * 2) < 256 := by decide +kernel
theorem tmStep_lt (a b d p : Nat) (hb : b < 256) (hp : p < 256) : tmStep a b d p < 256 := by
  unfold tmStep
  have h := red_lt p hp
  by_cases h1 : a / d % 2 = 1
  · rw [if_pos h1]; exact Nat.xor_lt_two_pow (n := 8) h hb
  · rw [if_neg h1]; exact h
theorem tmN_lt (a b j : Nat) (hb : b < 256) : tmN a b j < 256 := by
  induction j with
  | zero => simp [tmN]
  | succ j ih => exact tmStep_lt a b _ _ hb ih
theorem timesN_lt (a b : Nat) (hb : b < 256) : timesN a b < 256 := tmN_lt a b 8 hb

/-- a to the power of 254, by the bits of 254. -/
def inStep (a d p : Nat) : Nat := if 254 / d % 2 = 1 then timesN (timesN p p) a else timesN p p
def inN (a : Nat) : Nat → Nat
  | 0 => 1
  | j + 1 => inStep a (128 / 2 ^ j) (inN a j)
def inverseN (a : Nat) : Nat := inN a 8
theorem inStep_lt (a d p : Nat) (ha : a < 256) (hp : p < 256) : inStep a d p < 256 := by
  unfold inStep
  by_cases h : 254 / d % 2 = 1
  · rw [if_pos h]; exact timesN_lt _ _ ha
  · rw [if_neg h]; exact timesN_lt _ _ hp
theorem inN_lt (a j : Nat) (ha : a < 256) : inN a j < 256 := by
  induction j with
  | zero => simp [inN]
  | succ j ih => exact inStep_lt a _ _ ha ih

/-- A byte rotated left by one bit; the sum that S takes. -/
def rotN (b : Nat) : Nat → Nat
  | 0 => b
  | k + 1 => rotN b k * 2 % 256 + rotN b k / 128
def accN (b : Nat) : Nat → Nat
  | 0 => 99
  | k + 1 => accN b k ^^^ rotN b k
def sN (a : Nat) : Nat := accN (inverseN a) 5
theorem inverseN_lt (a : Nat) (ha : a < 256) : inverseN a < 256 := inN_lt a 8 ha
theorem rotN_lt (b k : Nat) (hb : b < 256) : rotN b k < 256 := by
  induction k with
  | zero => exact hb
  | succ k ih => show rotN b k * 2 % 256 + rotN b k / 128 < 256; omega
theorem accN_lt (b k : Nat) (hb : b < 256) : accN b k < 256 := by
  induction k with
  | zero => simp [accN]
  | succ k ih => exact Nat.xor_lt_two_pow (n := 8) ih (rotN_lt b k hb)
theorem sN_lt (a : Nat) (ha : a < 256) : sN a < 256 := accN_lt _ 5 (inverseN_lt a ha)
end Go.Proofs.Ytgfmdjagggnfbaa.S7
