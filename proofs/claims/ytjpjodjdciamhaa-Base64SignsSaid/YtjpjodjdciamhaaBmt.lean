/-
  Plain facts on base64: the signs of three bytes are four signs and the signs of the rest; which texts are signs; there and back.
-/
import Derived.Test.YtjpjodjdciamhaaRfd
namespace Go.Proofs.Ytjpjodjdciamhaa
set_option linter.unusedVariables false

theorem nK_shift (a b : List Int) (i j : Nat) : nK (a ++ b) (a.length + i) j = nK b i j := by
  induction j with
  | zero => rfl
  | succ j ih =>
    rw [nK, nK, ih]
    congr 1
    simp only [List.getD_eq_getElem?_getD]
    rw [List.getElem?_append_right (by omega), show a.length + i + j - a.length = i + j by omega]
theorem nK_front (a b : List Int) (i : Nat) : ∀ j, i + j ≤ a.length → nK (a ++ b) i j = nK a i j := by
  intro j
  induction j with
  | zero => intro _; rfl
  | succ j ih =>
    intro h
    rw [nK, nK, ih (by omega)]
    congr 1
    simp only [List.getD_eq_getElem?_getD]
    rw [List.getElem?_append_left (by omega)]
theorem byteBits_out (x : UInt8) : byteBits x = [((x.toNat / 128 % 2 : Nat) : Int), ((x.toNat / 64 % 2 : Nat) : Int), ((x.toNat / 32 % 2 : Nat) : Int), ((x.toNat / 16 % 2 : Nat) : Int), ((x.toNat / 8 % 2 : Nat) : Int), ((x.toNat / 4 % 2 : Nat) : Int), ((x.toNat / 2 % 2 : Nat) : Int), ((x.toNat / 1 % 2 : Nat) : Int)] := rfl
theorem sixBits_out (n : Nat) : sixBits n = [((n / 32 % 2 : Nat) : Int), ((n / 16 % 2 : Nat) : Int), ((n / 8 % 2 : Nat) : Int), ((n / 4 % 2 : Nat) : Int), ((n / 2 % 2 : Nat) : Int), ((n / 1 % 2 : Nat) : Int)] := rfl

/-- The signs of bits, T of them. -/
def encB (bs : List Int) (T : Nat) : List UInt8 := (List.range T).map fun q => sg (nK bs (6 * q) 6).toNat
theorem encL_encB (l : List UInt8) : encL l = encB (bitsL l) ((8 * l.length + 5) / 6) := rfl
theorem nK_six (v : Nat) (h : v < 64) (r : List Int) : nK (sixBits v ++ r) 0 6 = (v : Int) := by
  rw [nK_front (sixBits v) r 0 6 (by rw [sixBits_len]; omega), sixBits_out]
  simp only [nK, Nat.zero_add, List.getD_cons_zero, List.getD_cons_succ, Int.zero_mul, Int.zero_add]
  omega
theorem encB_step (v : Nat) (h : v < 64) (r : List Int) (T : Nat) : encB (sixBits v ++ r) (T + 1) = sg v :: encB r T := by
  unfold encB
  rw [List.range_succ_eq_map, List.map_cons, List.map_map]
  refine List.cons_eq_cons.2 ⟨?_, ?_⟩
  · rw [Nat.mul_zero, nK_six v h r, Int.toNat_natCast]
  · apply List.map_congr_left
    intro q _
    have := nK_shift (sixBits v) r (6 * q) 6
    rw [sixBits_len] at this
    simp only [Function.comp]
    rw [show 6 * (q + 1) = 6 + 6 * q by omega, this]
theorem three_bits (x y z : UInt8) : byteBits x ++ byteBits y ++ byteBits z = sixBits (x.toNat / 4) ++ (sixBits (x.toNat % 4 * 16 + y.toNat / 16) ++ (sixBits (y.toNat % 16 * 4 + z.toNat / 64) ++ sixBits (z.toNat % 64))) := by
  have hx := u8_lt x
  have hy := u8_lt y
  have hz := u8_lt z
  simp only [byteBits_out, sixBits_out, List.cons_append, List.nil_append, List.cons.injEq, and_true]
  (repeat' apply And.intro) <;> first | omega | (congr 1; omega) | trivial | (simp; done)
theorem two_bits (x y : UInt8) : byteBits x ++ byteBits y = sixBits (x.toNat / 4) ++ (sixBits (x.toNat % 4 * 16 + y.toNat / 16) ++ [((y.toNat / 8 % 2 : Nat) : Int), ((y.toNat / 4 % 2 : Nat) : Int), ((y.toNat / 2 % 2 : Nat) : Int), ((y.toNat % 2 : Nat) : Int)]) := by
  have hx := u8_lt x
  have hy := u8_lt y
  simp only [byteBits_out, sixBits_out, List.cons_append, List.nil_append, List.cons.injEq, and_true]
  (repeat' apply And.intro) <;> first | omega | (congr 1; omega) | trivial | (simp; done)
theorem one_bits (x : UInt8) : byteBits x = sixBits (x.toNat / 4) ++ [((x.toNat / 2 % 2 : Nat) : Int), ((x.toNat % 2 : Nat) : Int)] := by
  have hx := u8_lt x
  simp only [byteBits_out, sixBits_out, List.cons_append, List.nil_append, List.cons.injEq, and_true]
  (repeat' apply And.intro) <;> first | omega | (congr 1; omega) | trivial | (simp; done)

theorem enc_nil : encL [] = [] := rfl
theorem enc_one (x : UInt8) : encL [x] = [sg (x.toNat / 4), sg (x.toNat % 4 * 16)] := by
  have hx := u8_lt x
  rw [encL_encB, show bitsL [x] = byteBits x by simp [bitsL], one_bits x, show (8 * [x].length + 5) / 6 = 1 + 1 by simp, encB_step _ (by omega)]
  congr 1
  show [sg _] = [sg _]
  congr 2
  simp [nK]
  omega
theorem enc_two (x y : UInt8) : encL [x, y] = [sg (x.toNat / 4), sg (x.toNat % 4 * 16 + y.toNat / 16), sg (y.toNat % 16 * 4)] := by
  have hx := u8_lt x
  have hy := u8_lt y
  rw [encL_encB, show bitsL [x, y] = byteBits x ++ byteBits y by simp [bitsL], two_bits x y, show (8 * [x, y].length + 5) / 6 = 1 + 1 + 1 by simp, encB_step _ (by omega), encB_step _ (by omega)]
  congr 2
  show [sg _] = [sg _]
  congr 2
  simp [nK]
  omega
theorem enc_three (x y z : UInt8) (l : List UInt8) : encL (x :: y :: z :: l) = sg (x.toNat / 4) :: sg (x.toNat % 4 * 16 + y.toNat / 16) :: sg (y.toNat % 16 * 4 + z.toNat / 64) :: sg (z.toNat % 64) :: encL l := by
  have hx := u8_lt x
  have hy := u8_lt y
  have hz := u8_lt z
  rw [encL_encB, show bitsL (x :: y :: z :: l) = (byteBits x ++ byteBits y ++ byteBits z) ++ bitsL l by simp [bitsL], three_bits x y z,
    show (8 * (x :: y :: z :: l).length + 5) / 6 = (8 * l.length + 5) / 6 + 1 + 1 + 1 + 1 by simp; omega]
  simp only [List.append_assoc]
  rw [encB_step _ (by omega), encB_step _ (by omega), encB_step _ (by omega), encB_step _ (by omega)]
  rfl

theorem sg_ix : ∀ n : Fin 64, ixS (sg n.1) = (n.1 : Int) := by decide +kernel
theorem ix_sg : ∀ n : Fin 256, 0 ≤ ixS (UInt8.ofNat n.1) → sg (ixS (UInt8.ofNat n.1)).toNat = UInt8.ofNat n.1 := by decide +kernel
theorem ixS_sg (n : Nat) (h : n < 64) : ixS (sg n) = (n : Int) := sg_ix ⟨n, h⟩
theorem sg_ixS (c : UInt8) (h : 0 ≤ ixS c) : sg (ixS c).toNat = c := by
  have := ix_sg ⟨c.toNat, u8_lt c⟩
  simp at this
  exact this h
theorem ixS_lt (c : UInt8) : ixS c < 64 := (atN_bd c 64).2
end Go.Proofs.Ytjpjodjdciamhaa
