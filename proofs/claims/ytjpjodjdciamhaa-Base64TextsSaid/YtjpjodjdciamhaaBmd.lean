/-
  Plain facts on base64: what four signs say, which texts are signs, and that decoding undoes encoding.
-/
import Derived.Test.YtjpjodjdciamhaaBmt
namespace Go.Proofs.Ytjpjodjdciamhaa
set_option linter.unusedVariables false

def outB (bs : List Int) (T : Nat) : List UInt8 := (List.range T).map fun q => UInt8.ofNat (nK bs (8 * q) 8).toNat
theorem outL_outB (s : List UInt8) : outL s = outB (dbits s) (6 * s.length / 8) := rfl
theorem nK_eight (x : UInt8) (r : List Int) : nK (byteBits x ++ r) 0 8 = (x.toNat : Int) := by
  have hx := u8_lt x
  rw [nK_front (byteBits x) r 0 8 (by rw [byteBits_len]; omega), byteBits_out]
  simp only [nK, Nat.zero_add, List.getD_cons_zero, List.getD_cons_succ, Int.zero_mul, Int.zero_add]
  omega
theorem outB_step (x : UInt8) (r : List Int) (T : Nat) : outB (byteBits x ++ r) (T + 1) = x :: outB r T := by
  unfold outB
  rw [List.range_succ_eq_map, List.map_cons, List.map_map]
  refine List.cons_eq_cons.2 ⟨?_, ?_⟩
  · rw [Nat.mul_zero, nK_eight x r, Int.toNat_natCast]
    simp
  · apply List.map_congr_left
    intro q _
    have := nK_shift (byteBits x) r (8 * q) 8
    rw [byteBits_len] at this
    simp only [Function.comp]
    rw [show 8 * (q + 1) = 8 + 8 * q by omega, this]

def nb (c : UInt8) : Nat := (ixS c).toNat
theorem nb_lt (c : UInt8) : nb c < 64 := by have := ixS_lt c; unfold nb; omega
def B0 (a b : Nat) : UInt8 := UInt8.ofNat (a * 4 + b / 16)
def B1 (b c : Nat) : UInt8 := UInt8.ofNat (b % 16 * 16 + c / 4)
def B2 (c d : Nat) : UInt8 := UInt8.ofNat (c % 4 * 64 + d)
theorem B0_n (a b : Nat) (ha : a < 64) (hb : b < 64) : (B0 a b).toNat = a * 4 + b / 16 := by unfold B0; rw [UInt8.toNat_ofNat']; omega
theorem B1_n (b c : Nat) (hb : b < 64) (hc : c < 64) : (B1 b c).toNat = b % 16 * 16 + c / 4 := by unfold B1; rw [UInt8.toNat_ofNat']; omega
theorem B2_n (c d : Nat) (hc : c < 64) (hd : d < 64) : (B2 c d).toNat = c % 4 * 64 + d := by unfold B2; rw [UInt8.toNat_ofNat']; omega

theorem four_bits (a b c d : Nat) (ha : a < 64) (hb : b < 64) (hc : c < 64) (hd : d < 64) : sixBits a ++ (sixBits b ++ (sixBits c ++ sixBits d)) = byteBits (B0 a b) ++ (byteBits (B1 b c) ++ byteBits (B2 c d)) := by
  have := three_bits (B0 a b) (B1 b c) (B2 c d)
  rw [B0_n a b ha hb, B1_n b c hb hc, B2_n c d hc hd] at this
  rw [show (a * 4 + b / 16) / 4 = a by omega, show (a * 4 + b / 16) % 4 * 16 + (b % 16 * 16 + c / 4) / 16 = b by omega, show (b % 16 * 16 + c / 4) % 16 * 4 + (c % 4 * 64 + d) / 64 = c by omega, show (c % 4 * 64 + d) % 64 = d by omega, List.append_assoc] at this
  exact this.symm
theorem out_nil : outL [] = [] := rfl
theorem out_one (x : UInt8) : outL [x] = [] := by rw [outL_outB, show 6 * [x].length / 8 = 0 by simp]; rfl
theorem out_four (x y z t : UInt8) (s : List UInt8) : outL (x :: y :: z :: t :: s) = B0 (nb x) (nb y) :: B1 (nb y) (nb z) :: B2 (nb z) (nb t) :: outL s := by
  rw [outL_outB, show dbits (x :: y :: z :: t :: s) = (sixBits (nb x) ++ (sixBits (nb y) ++ (sixBits (nb z) ++ sixBits (nb t)))) ++ dbits s by simp [dbits, nb],
    four_bits _ _ _ _ (nb_lt x) (nb_lt y) (nb_lt z) (nb_lt t), show 6 * (x :: y :: z :: t :: s).length / 8 = 6 * s.length / 8 + 1 + 1 + 1 by simp; omega]
  simp only [List.append_assoc]
  rw [outB_step, outB_step, outB_step]
  rfl
theorem out_three (x y z : UInt8) : outL [x, y, z] = [B0 (nb x) (nb y), B1 (nb y) (nb z)] := by
  have h : sixBits (nb x) ++ (sixBits (nb y) ++ sixBits (nb z)) = byteBits (B0 (nb x) (nb y)) ++ (byteBits (B1 (nb y) (nb z)) ++ [((nb z / 2 % 2 : Nat) : Int), ((nb z % 2 : Nat) : Int)]) := by
    have hx := nb_lt x
    have hy := nb_lt y
    have hz := nb_lt z
    have e0 := B0_n _ _ hx hy
    have e1 := B1_n _ _ hy hz
    simp only [byteBits_out, sixBits_out, List.cons_append, List.nil_append, List.cons.injEq, and_true, e0, e1]
    (repeat' apply And.intro) <;> first | omega | (congr 1; omega) | trivial | (simp; done)
  rw [outL_outB, show dbits [x, y, z] = sixBits (nb x) ++ (sixBits (nb y) ++ sixBits (nb z)) by simp [dbits, nb], h, show 6 * [x, y, z].length / 8 = 0 + 1 + 1 by simp, outB_step, outB_step]
  rfl
theorem out_two (x y : UInt8) : outL [x, y] = [B0 (nb x) (nb y)] := by
  have h : sixBits (nb x) ++ sixBits (nb y) = byteBits (B0 (nb x) (nb y)) ++ [((nb y / 8 % 2 : Nat) : Int), ((nb y / 4 % 2 : Nat) : Int), ((nb y / 2 % 2 : Nat) : Int), ((nb y % 2 : Nat) : Int)] := by
    have hx := nb_lt x
    have hy := nb_lt y
    have e0 := B0_n _ _ hx hy
    simp only [byteBits_out, sixBits_out, List.cons_append, List.nil_append, List.cons.injEq, and_true, e0]
    (repeat' apply And.intro) <;> first | omega | (congr 1; omega) | trivial | (simp; done)
  rw [outL_outB, show dbits [x, y] = sixBits (nb x) ++ sixBits (nb y) by simp [dbits, nb], h, show 6 * [x, y].length / 8 = 0 + 1 by simp, outB_step]
  rfl

def Ok (c : UInt8) : Prop := 0 ≤ ixS c
theorem sg_nb (c : UInt8) (h : Ok c) : sg (nb c) = c := sg_ixS c h
theorem nb_sg (n : Nat) (h : n < 64) : nb (sg n) = n := by unfold nb; rw [ixS_sg n h]; simp
theorem ok_sg (n : Nat) (h : n < 64) : Ok (sg n) := by unfold Ok; rw [ixS_sg n h]; omega
theorem sg_inj (a b : Nat) (ha : a < 64) (hb : b < 64) (h : sg a = sg b) : a = b := by rw [← nb_sg a ha, ← nb_sg b hb, h]
theorem dec_iff (s : List UInt8) : Dec s ↔ (∀ c ∈ s, Ok c) ∧ encL (outL s) = s := by
  unfold Dec
  refine and_congr_left fun _ => ⟨fun h c hc => ?_, fun h k hk => ?_⟩
  · obtain ⟨k, hk, rfl⟩ := List.getElem_of_mem hc
    have := h k hk
    simpa [hk, Ok] using this
  · have := h s[k] (List.getElem_mem hk)
    simpa [hk, Ok] using this
theorem dec_nil : Dec [] := (dec_iff []).2 ⟨by simp, rfl⟩
theorem dec_one (x : UInt8) : ¬ Dec [x] := fun h => by
  have := ((dec_iff _).1 h).2
  rw [out_one, enc_nil] at this
  simp at this
theorem dec_two (x y : UInt8) : Dec [x, y] ↔ Ok x ∧ Ok y ∧ nb y % 16 = 0 := by
  have hx := nb_lt x
  have hy := nb_lt y
  rw [dec_iff, out_two, enc_one, B0_n _ _ hx hy, show (nb x * 4 + nb y / 16) / 4 = nb x by omega]
  simp only [List.mem_cons, List.not_mem_nil, or_false, forall_eq_or_imp, forall_eq, List.cons.injEq, and_true]
  constructor
  · rintro ⟨⟨h1, h2⟩, h3, h4⟩
    refine ⟨h1, h2, ?_⟩
    have := sg_inj _ _ (by omega) hy (h4.trans (sg_nb y h2).symm)
    omega
  · rintro ⟨h1, h2, h3⟩
    refine ⟨⟨h1, h2⟩, sg_nb x h1, ?_⟩
    rw [show (nb x * 4 + nb y / 16) % 4 * 16 = nb y by omega]
    exact sg_nb y h2
theorem dec_three (x y z : UInt8) : Dec [x, y, z] ↔ Ok x ∧ Ok y ∧ Ok z ∧ nb z % 4 = 0 := by
  have hx := nb_lt x
  have hy := nb_lt y
  have hz := nb_lt z
  rw [dec_iff, out_three, enc_two, B0_n _ _ hx hy, B1_n _ _ hy hz, show (nb x * 4 + nb y / 16) / 4 = nb x by omega, show (nb x * 4 + nb y / 16) % 4 * 16 + (nb y % 16 * 16 + nb z / 4) / 16 = nb y by omega]
  simp only [List.mem_cons, List.not_mem_nil, or_false, forall_eq_or_imp, forall_eq, List.cons.injEq, and_true]
  constructor
  · rintro ⟨⟨h1, h2, h3⟩, h4, h5, h6⟩
    refine ⟨h1, h2, h3, ?_⟩
    have := sg_inj _ _ (by omega) hz (h6.trans (sg_nb z h3).symm)
    omega
  · rintro ⟨h1, h2, h3, h4⟩
    refine ⟨⟨h1, h2, h3⟩, sg_nb x h1, sg_nb y h2, ?_⟩
    rw [show (nb y % 16 * 16 + nb z / 4) % 16 * 4 = nb z by omega]
    exact sg_nb z h3
theorem dec_four (x y z t : UInt8) (s : List UInt8) : Dec (x :: y :: z :: t :: s) ↔ Ok x ∧ Ok y ∧ Ok z ∧ Ok t ∧ Dec s := by
  have hx := nb_lt x
  have hy := nb_lt y
  have hz := nb_lt z
  have ht := nb_lt t
  rw [dec_iff, dec_iff, out_four, enc_three, B0_n _ _ hx hy, B1_n _ _ hy hz, B2_n _ _ hz ht, show (nb x * 4 + nb y / 16) / 4 = nb x by omega, show (nb x * 4 + nb y / 16) % 4 * 16 + (nb y % 16 * 16 + nb z / 4) / 16 = nb y by omega,
    show (nb y % 16 * 16 + nb z / 4) % 16 * 4 + (nb z % 4 * 64 + nb t) / 64 = nb z by omega, show (nb z % 4 * 64 + nb t) % 64 = nb t by omega]
  simp only [List.mem_cons, forall_eq_or_imp, List.cons.injEq]
  constructor
  · rintro ⟨⟨h1, h2, h3, h4, h5⟩, _, _, _, _, h6⟩
    exact ⟨h1, h2, h3, h4, h5, h6⟩
  · rintro ⟨h1, h2, h3, h4, h5, h6⟩
    exact ⟨⟨h1, h2, h3, h4, h5⟩, sg_nb x h1, sg_nb y h2, sg_nb z h3, sg_nb t h4, h6⟩

theorem B_back (x y z : UInt8) : B0 (x.toNat / 4) (x.toNat % 4 * 16 + y.toNat / 16) = x ∧ B1 (x.toNat % 4 * 16 + y.toNat / 16) (y.toNat % 16 * 4 + z.toNat / 64) = y ∧ B2 (y.toNat % 16 * 4 + z.toNat / 64) (z.toNat % 64) = z := by
  have hx := u8_lt x
  have hy := u8_lt y
  have hz := u8_lt z
  refine ⟨UInt8.toNat_inj.1 ?_, UInt8.toNat_inj.1 ?_, UInt8.toNat_inj.1 ?_⟩
  · rw [B0_n _ _ (by omega) (by omega)]; omega
  · rw [B1_n _ _ (by omega) (by omega)]; omega
  · rw [B2_n _ _ (by omega) (by omega)]; omega
theorem dec_enc : ∀ (k : Nat) (b : List UInt8), b.length ≤ k → Dec (encL b) ∧ outL (encL b) = b := by
  intro k
  induction k with
  | zero =>
    intro b hb
    have : b = [] := List.eq_nil_of_length_eq_zero (by omega)
    subst this
    exact ⟨dec_nil, rfl⟩
  | succ k ih =>
    intro b hb
    match b, hb with
    | [], _ => exact ⟨dec_nil, rfl⟩
    | [x], _ =>
      have hx := u8_lt x
      rw [enc_one, dec_two, out_two, nb_sg _ (by omega), nb_sg _ (by omega)]
      refine ⟨⟨ok_sg _ (by omega), ok_sg _ (by omega), by omega⟩, ?_⟩
      congr 1
      apply UInt8.toNat_inj.1
      rw [B0_n _ _ (by omega) (by omega)]; omega
    | [x, y], _ =>
      have hx := u8_lt x
      have hy := u8_lt y
      rw [enc_two, dec_three, out_three, nb_sg _ (by omega), nb_sg _ (by omega), nb_sg _ (by omega)]
      refine ⟨⟨ok_sg _ (by omega), ok_sg _ (by omega), ok_sg _ (by omega), by omega⟩, ?_⟩
      refine List.cons_eq_cons.2 ⟨?_, List.cons_eq_cons.2 ⟨?_, rfl⟩⟩
      · apply UInt8.toNat_inj.1; rw [B0_n _ _ (by omega) (by omega)]; omega
      · apply UInt8.toNat_inj.1; rw [B1_n _ _ (by omega) (by omega)]; omega
    | x :: y :: z :: l, hb =>
      have hx := u8_lt x
      have hy := u8_lt y
      have hz := u8_lt z
      obtain ⟨i1, i2⟩ := ih l (by simp at hb; omega)
      rw [enc_three, dec_four, out_four, nb_sg _ (by omega), nb_sg _ (by omega), nb_sg _ (by omega), nb_sg _ (by omega)]
      obtain ⟨e0, e1, e2⟩ := B_back x y z
      rw [e0, e1, e2, i2]
      exact ⟨⟨ok_sg _ (by omega), ok_sg _ (by omega), ok_sg _ (by omega), ok_sg _ (by omega), i1⟩, rfl⟩
theorem dec_encL (b : List UInt8) : Dec (encL b) := (dec_enc b.length b (Nat.le_refl _)).1
theorem out_encL (b : List UInt8) : outL (encL b) = b := (dec_enc b.length b (Nat.le_refl _)).2
theorem enc_inj (a b : List UInt8) (h : encL a = encL b) : a = b := by rw [← out_encL a, ← out_encL b, h]
theorem encL_len (l : List UInt8) : (encL l).length = (8 * l.length + 5) / 6 := by simp [encL]
end Go.Proofs.Ytjpjodjdciamhaa
