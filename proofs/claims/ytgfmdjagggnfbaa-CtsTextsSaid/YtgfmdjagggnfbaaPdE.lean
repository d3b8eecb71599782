/-
  Contract of the program's mixBack.
-/
import Derived.Test.YtgfmdjagggnfbaaPdD
namespace Go.Proofs.Ytgfmdjagggnfbaa.S7
open Go.RowKit
set_option linter.unusedVariables false
set_option linter.unusedSimpArgs false

/-- What mixBack makes of a byte before it mixes. -/
def preB (a c : UInt8) : UInt8 := a ^^^ dbl (dbl (a ^^^ c))
theorem pre_one (a b c d : UInt8) : mixB (preB a c) (preB b d) (preB c a) (preB d b) = unmixB a b c d := by
  have h : unmixB a b c d = unmixB a b c d ^^^ (dbl (dbl b) ^^^ dbl (dbl b)) ^^^ (dbl (dbl d) ^^^ dbl (dbl d)) := by simp
  refine Eq.trans ?_ h.symm
  simp only [preB, mixB, unmixB, mulB, Nat.reduceMod, Nat.reduceDiv, Nat.reduceEqDiff, if_true, if_false, UInt8.xor_zero, UInt8.zero_xor, dbl_xor]
  ac_rfl
def preF (Y : List UInt8) (i : Nat) : UInt8 := preB (gt Y (col i 0)) (gt Y (col i 2))
theorem pre_mix (Y : List UInt8) : mixS (mk (preF Y)) = unmixS Y := by
  refine mk_congr fun i hi => ?_
  rw [gt_mk _ _ (col_lt i 0 hi), gt_mk _ _ (col_lt i 1 hi), gt_mk _ _ (col_lt i 2 hi), gt_mk _ _ (col_lt i 3 hi)]
  unfold preF
  simp only [col_col, Nat.reduceAdd, show col i 4 = col i 0 from col_four i 0, show col i 5 = col i 1 from col_four i 1]
  exact pre_one _ _ _ _
theorem preF_col (Y : List UInt8) (m cc : Nat) (h : cc = 4 * m) (hc : cc < 16) :
    preF Y cc = preB (gt Y cc) (gt Y (cc + 2)) ∧ preF Y (cc + 1) = preB (gt Y (cc + 1)) (gt Y (cc + 3)) ∧ preF Y (cc + 2) = preB (gt Y (cc + 2)) (gt Y cc) ∧ preF Y (cc + 3) = preB (gt Y (cc + 3)) (gt Y (cc + 1)) := by
  have hm : m < 4 := by omega
  subst h
  match m, hm with
  | 0, _ | 1, _ | 2, _ | 3, _ => exact ⟨rfl, rfl, rfl, rfl⟩

set_option maxHeartbeats 4000000 in
set_option maxRecDepth 20000 in
theorem mixBack_any (b : List UInt8) (hb : b.length = 16) (w : World) :
    Calls Try.prog 53 #[.agg (bvs b).toArray] w fun e w' => e = .returned (.agg (bvs (unmixS b)).toArray) ∧ Grown w w' := by
  have Hb := Lib.hid hb
  have H0 := Lib.hid (Fr.start w b rfl (Z := (bvs zs16).toArray) rfl)
  rw [show (bvs zs16).toArray = #[Value.int .u8 0, Value.int .u8 0, Value.int .u8 0, Value.int .u8 0, Value.int .u8 0, Value.int .u8 0, Value.int .u8 0, Value.int .u8 0, Value.int .u8 0, Value.int .u8 0, Value.int .u8 0, Value.int .u8 0, Value.int .u8 0, Value.int .u8 0, Value.int .u8 0, Value.int .u8 0] from rfl] at H0
  clear hb
  go_enter Try.func53, Try.ntmps53
  go_wp2
  generalize (w.alloc _).alloc _ = w3 at H0 ⊢
  have H1 := Lib.hid (show Fr w w3 (pt (preF b) b 0) by rw [pt_zero _ _ Hb.out]; exact H0.out)
  clear H0
  go_loopw [3] (fun v3 wr => ∃ m cc : Nat, v3 = .int .i64 (cc : Int) ∧ cc ≤ 16 ∧ Hid (cc = 4 * m) ∧ Hid (Fr w wr (pt (preF b) b cc))) (fun v3 _ => 16 - (intOf v3).toNat)
  case atStart => exact ⟨0, 0, rfl, by omega, rfl, H1.out⟩
  case round =>
    clear H1
    obtain ⟨m, cc, rfl, hcc, Hm, H⟩ := hrel
    by_cases hlt : cc < 16
    · obtain ⟨i1, hi1⟩ : ∃ x, x = cc + 1 := ⟨_, rfl⟩
      obtain ⟨i2, hi2⟩ : ∃ x, x = cc + 2 := ⟨_, rfl⟩
      obtain ⟨i3, hi3⟩ : ∃ x, x = cc + 3 := ⟨_, rfl⟩
      have h13 : i3 < 16 := by have := Hm.out; omega
      have e1 : (cc : Int) + 1 = (i1 : Int) := by omega
      have e2 : (cc : Int) + 2 = (i2 : Int) := by omega
      have e3 : (cc : Int) + 3 = (i3 : Int) := by omega
      have f1 := wrap_i64 i1 (by omega)
      have f2 := wrap_i64 i2 (by omega)
      have f3 := wrap_i64 i3 (by omega)
      have l0 : (cc : Int) < 16 := by omega
      have l1 : (i1 : Int) < 16 := by omega
      have l2 : (i2 : Int) < 16 := by omega
      have l3 : (i3 : Int) < 16 := by omega
      obtain ⟨a, ha⟩ : ∃ x, x = gt b cc := ⟨_, rfl⟩
      obtain ⟨b1, hb1⟩ : ∃ x, x = gt b i1 := ⟨_, rfl⟩
      obtain ⟨c, hc⟩ : ∃ x, x = gt b i2 := ⟨_, rfl⟩
      obtain ⟨d, hd⟩ : ∃ x, x = gt b i3 := ⟨_, rfl⟩
      have hcell : ∀ k, k < 16 → cc ≤ k → gt (pt (preF b) b cc) k = gt b k := fun k hk hk2 => by
        rw [gt_pt _ _ _ _ hk, if_neg (by omega)]
      have c0 := H.out.cell cc (by rw [pt_len]; omega)
      have c1 := H.out.cell i1 (by rw [pt_len]; omega)
      have c2 := H.out.cell i2 (by rw [pt_len]; omega)
      have c3 := H.out.cell i3 (by rw [pt_len]; omega)
      rw [hcell cc (by omega) (by omega), ← ha] at c0
      rw [hcell i1 (by omega) (by omega), ← hb1] at c1
      rw [hcell i2 (by omega) (by omega), ← hc] at c2
      rw [hcell i3 (by omega) (by omega), ← hd] at c3
      obtain ⟨x1, hx1⟩ : ∃ x, x = a ^^^ c := ⟨_, rfl⟩
      obtain ⟨x2, hx2⟩ : ∃ x, x = b1 ^^^ d := ⟨_, rfl⟩
      have q1 : bits .xor .u8 (a.toNat : Int) (c.toNat : Int) = (x1.toNat : Int) := by rw [hx1]; exact xor_u8 _ _
      have q2 : bits .xor .u8 (b1.toNat : Int) (d.toNat : Int) = (x2.toNat : Int) := by rw [hx2]; exact xor_u8 _ _
      obtain ⟨y1, hy1⟩ : ∃ x, x = dbl x1 := ⟨_, rfl⟩
      obtain ⟨y2, hy2⟩ : ∃ x, x = dbl x2 := ⟨_, rfl⟩
      obtain ⟨v1, hv1⟩ : ∃ x, x = dbl y1 := ⟨_, rfl⟩
      obtain ⟨v2, hv2⟩ : ∃ x, x = dbl y2 := ⟨_, rfl⟩
      obtain ⟨z1, hz1⟩ : ∃ x, x = a ^^^ v1 := ⟨_, rfl⟩
      have s1 : bits .xor .u8 (a.toNat : Int) (v1.toNat : Int) = (z1.toNat : Int) := by rw [hz1]; exact xor_u8 _ _
      obtain ⟨z2, hz2⟩ : ∃ x, x = b1 ^^^ v2 := ⟨_, rfl⟩
      have s2 : bits .xor .u8 (b1.toNat : Int) (v2.toNat : Int) = (z2.toNat : Int) := by rw [hz2]; exact xor_u8 _ _
      obtain ⟨z3, hz3⟩ : ∃ x, x = c ^^^ v1 := ⟨_, rfl⟩
      have s3 : bits .xor .u8 (c.toNat : Int) (v1.toNat : Int) = (z3.toNat : Int) := by rw [hz3]; exact xor_u8 _ _
      obtain ⟨z4, hz4⟩ : ∃ x, x = d ^^^ v2 := ⟨_, rfl⟩
      have s4 : bits .xor .u8 (d.toNat : Int) (v2.toNat : Int) = (z4.toNat : Int) := by rw [hz4]; exact xor_u8 _ _
      have HC1 := Lib.hid (fun W => show Calls Try.prog 23 #[.int .u8 (x1.toNat : Int)] W (fun e w' => e = .returned (.int .u8 (y1.toNat : Int)) ∧ w' = W) by rw [hy1]; exact double_any x1 W)
      have HC2 := Lib.hid (fun W => show Calls Try.prog 23 #[.int .u8 (y1.toNat : Int)] W (fun e w' => e = .returned (.int .u8 (v1.toNat : Int)) ∧ w' = W) by rw [hv1]; exact double_any y1 W)
      have HC3 := Lib.hid (fun W => show Calls Try.prog 23 #[.int .u8 (x2.toNat : Int)] W (fun e w' => e = .returned (.int .u8 (y2.toNat : Int)) ∧ w' = W) by rw [hy2]; exact double_any x2 W)
      have HC4 := Lib.hid (fun W => show Calls Try.prog 23 #[.int .u8 (y2.toNat : Int)] W (fun e w' => e = .returned (.int .u8 (v2.toNat : Int)) ∧ w' = W) by rw [hv2]; exact double_any y2 W)
      obtain ⟨m1, m2, m3, m4⟩ := preF_col b m cc Hm.out hlt
      rw [← hi2, ← ha, ← hc] at m1
      rw [← hi1, ← hi3, ← hb1, ← hd] at m2
      rw [← hi2, ← ha, ← hc] at m3
      rw [← hi1, ← hi3, ← hb1, ← hd] at m4
      have HZ1 := Lib.hid (show z1 = preF b cc by rw [m1, hz1, hv1, hy1, hx1]; rfl)
      have HZ2 := Lib.hid (show z2 = preF b i1 by rw [m2, hz2, hv2, hy2, hx2]; rfl)
      have HZ3 := Lib.hid (show z3 = preF b i2 by rw [m3, hz3, hv1, hy1, hx1, UInt8.xor_comm a c]; rfl)
      have HZ4 := Lib.hid (show z4 = preF b i3 by rw [m4, hz4, hv2, hy2, hx2, UInt8.xor_comm b1 d]; rfl)
      have HI1 := Lib.hid hi1
      have HI2 := Lib.hid hi2
      have HI3 := Lib.hid hi3
      have HA := Lib.hid ha
      have HB := Lib.hid hb1
      have HC := Lib.hid hc
      have HD := Lib.hid hd
      clear hi1 hi2 hi3 ha hb1 hc hd hx1 hx2 hy1 hy2 hv1 hv2 hz1 hz2 hz3 hz4 m1 m2 m3 m4 hcell
      go_wp2_with fail
      go_quiet ((first | with_reducible exact Calls.quiet_of_same (HC1.out _) | with_reducible exact Calls.quiet_of_same (HC2.out _)))
      have H1 := Lib.hid (H.out.drewN nq)
      clear H c0 c1 c2 c3
      generalize wr.drewN nq = w4 at H1 ⊢
      have c1 := H1.out.cell i1 (by rw [pt_len]; omega)
      have c3 := H1.out.cell i3 (by rw [pt_len]; omega)
      rw [gt_pt _ _ _ _ (by omega), if_neg (by have := HI1.out; omega), ← HB.out] at c1
      rw [gt_pt _ _ _ _ (by omega), if_neg (by have := HI3.out; omega), ← HD.out] at c3
      go_wp2_with fail
      go_quiet ((first | with_reducible exact Calls.quiet_of_same (HC3.out _) | with_reducible exact Calls.quiet_of_same (HC4.out _)))
      have H2 := Lib.hid (H1.out.drewN nq)
      clear H1 c1 c3
      generalize w4.drewN nq = w5 at H2 ⊢
      have c0 := H2.out.cell cc (by rw [pt_len]; omega)
      rw [gt_pt _ _ _ _ (by omega), if_neg (by omega), ← HA.out] at c0
      clear HC1 HC2 HC3 HC4 q1 q2
      go_wp2_with (first
        | (refine wpList_put_fr rfl (.tmp 36) (.tmp 35) rfl (z := z1) rfl rfl H2.out (by rw [pt_len]; omega) ?_
           intro w6 h6
           have H3 := Lib.hid (show Fr w w6 (pt (preF b) b i1) by rw [HI1.out, ← pt_set, ← HZ1.out]; exact h6)
           clear h6
           have c1 := H3.out.cell i1 (by rw [pt_len]; omega)
           rw [gt_pt _ _ _ _ (by omega), if_neg (by omega), ← HB.out] at c1)
        | (refine wpList_put_fr rfl (.tmp 43) (.tmp 42) rfl (z := z2) rfl rfl H3.out (by rw [pt_len]; omega) ?_
           intro w7 h7
           have H4 := Lib.hid (show Fr w w7 (pt (preF b) b i2) by rw [show i2 = i1 + 1 by have := HI1.out; have := HI2.out; omega, ← pt_set, ← HZ2.out]; exact h7)
           clear h7
           have c2 := H4.out.cell i2 (by rw [pt_len]; omega)
           rw [gt_pt _ _ _ _ (by omega), if_neg (by omega), ← HC.out] at c2)
        | (refine wpList_put_fr rfl (.tmp 50) (.tmp 49) rfl (z := z3) rfl rfl H4.out (by rw [pt_len]; omega) ?_
           intro w8 h8
           have H5 := Lib.hid (show Fr w w8 (pt (preF b) b i3) by rw [show i3 = i2 + 1 by have := HI3.out; have := HI2.out; omega, ← pt_set, ← HZ3.out]; exact h8)
           clear h8
           have c3 := H5.out.cell i3 (by rw [pt_len]; omega)
           rw [gt_pt _ _ _ _ (by omega), if_neg (by omega), ← HD.out] at c3)
        | (refine wpList_put_fr rfl (.tmp 57) (.tmp 56) rfl (z := z4) rfl rfl H5.out (by rw [pt_len]; omega) ?_
           intro w9 h9
           have H6 := Lib.hid (show Fr w w9 (pt (preF b) b (i3 + 1)) by rw [← pt_set, ← HZ4.out]; exact h9)
           clear h9))
      go_roundw
      case rel => exact ⟨m + 1, cc + 4, by go_num, by have := HI3.out; omega, (by show cc + 4 = 4 * (m + 1); have := Hm.out; omega), (by rw [show cc + 4 = i3 + 1 by have := HI3.out; omega]; exact H6.out)⟩
      case measure => simp [intOf]; omega
    · have H2 := Lib.hid (show Fr w wr (mk (preF b)) by have := H.out; rw [show cc = 16 by omega, pt_all] at this; exact this)
      have bt : ¬ (cc : Int) < 16 := by omega
      have HR := Lib.hid (show (mk (preF b)).length = 16 from mk_len _)
      obtain ⟨R, hR⟩ : ∃ R, R = mk (preF b) := ⟨_, rfl⟩
      rw [← hR] at H2 HR
      have HE := Lib.hid (show mixS R = unmixS b by rw [hR]; exact pre_mix b)
      have HS := Lib.hid (mixS_len R)
      clear H hR
      go_wp2_with (first
        | (refine wpList_load_fr rfl (.tmp 1) rfl rfl H2.out HR.out ?_))
      refine (mix_any R HR.out _).mono ?_
      rintro e w6 ⟨rfl, hg⟩
      have H3 := Lib.hid (H2.out.grow hg)
      clear hg
      go_wp2_with (first
        | (refine wpList_store_res rfl (.tmp 2) (.tmp 59) rfl rfl rfl H3.out HS.out ?_
           intro w9 h9
           have H9 := Lib.hid h9
           clear h9))
      exact ret_fr rfl rfl H9.out HS.out ⟨by rw [HE.out], H9.out.1⟩
end Go.Proofs.Ytgfmdjagggnfbaa.S7
