/-
  Contract of the program's mix.
-/
import Derived.Test.YtgfmdjagggnfbaaPdC
namespace Go.Proofs.Ytgfmdjagggnfbaa.S7
open Go.RowKit
set_option linter.unusedVariables false
set_option linter.unusedSimpArgs false

theorem mix_one (a b c d s : UInt8) (hs : s = a ^^^ (b ^^^ (c ^^^ d))) : a ^^^ s ^^^ dbl (a ^^^ b) = mixB a b c d := by
  have e : a ^^^ s = b ^^^ (c ^^^ d) := by rw [hs, ← UInt8.xor_assoc, UInt8.xor_self, UInt8.zero_xor]
  rw [e, dbl_xor]
  simp only [mixB, mulB, Nat.reduceMod, Nat.reduceDiv, Nat.reduceEqDiff, if_true, if_false, UInt8.xor_zero, UInt8.zero_xor]
  ac_rfl
theorem mix_col (a b c d s : UInt8) (hs : s = ((a ^^^ b) ^^^ c) ^^^ d) :
    a ^^^ s ^^^ dbl (a ^^^ b) = mixB a b c d ∧ b ^^^ s ^^^ dbl (b ^^^ c) = mixB b c d a ∧ c ^^^ s ^^^ dbl (c ^^^ d) = mixB c d a b ∧ d ^^^ s ^^^ dbl (d ^^^ a) = mixB d a b c := by
  subst hs
  exact ⟨mix_one _ _ _ _ _ (by ac_rfl), mix_one _ _ _ _ _ (by ac_rfl), mix_one _ _ _ _ _ (by ac_rfl), mix_one _ _ _ _ _ (by ac_rfl)⟩
theorem mixF_col (Y : List UInt8) (m cc : Nat) (h : cc = 4 * m) (hc : cc < 16) :
    mixF Y cc = mixB (gt Y cc) (gt Y (cc + 1)) (gt Y (cc + 2)) (gt Y (cc + 3)) ∧ mixF Y (cc + 1) = mixB (gt Y (cc + 1)) (gt Y (cc + 2)) (gt Y (cc + 3)) (gt Y cc) ∧
    mixF Y (cc + 2) = mixB (gt Y (cc + 2)) (gt Y (cc + 3)) (gt Y cc) (gt Y (cc + 1)) ∧ mixF Y (cc + 3) = mixB (gt Y (cc + 3)) (gt Y cc) (gt Y (cc + 1)) (gt Y (cc + 2)) := by
  have hm : m < 4 := by omega
  subst h
  match m, hm with
  | 0, _ | 1, _ | 2, _ | 3, _ => exact ⟨rfl, rfl, rfl, rfl⟩
theorem wrap_i64 (n : Nat) (h : n < 100000) : IntKind.i64.wrap (n : Int) = (n : Int) := by rw [IntKind.wrap_i64]; omega

set_option maxHeartbeats 4000000 in
set_option maxRecDepth 20000 in
theorem mix_any (b : List UInt8) (hb : b.length = 16) (w : World) :
    Calls Try.prog 22 #[.agg (bvs b).toArray] w fun e w' => e = .returned (.agg (bvs (mixS b)).toArray) ∧ Grown w w' := by
  have Hb := Lib.hid hb
  have H0 := Lib.hid (Fr.start w b rfl (Z := (bvs zs16).toArray) rfl)
  rw [show (bvs zs16).toArray = #[Value.int .u8 0, Value.int .u8 0, Value.int .u8 0, Value.int .u8 0, Value.int .u8 0, Value.int .u8 0, Value.int .u8 0, Value.int .u8 0, Value.int .u8 0, Value.int .u8 0, Value.int .u8 0, Value.int .u8 0, Value.int .u8 0, Value.int .u8 0, Value.int .u8 0, Value.int .u8 0] from rfl] at H0
  clear hb
  go_enter Try.func22, Try.ntmps22
  go_wp2
  generalize (w.alloc _).alloc _ = w3 at H0 ⊢
  have H1 := Lib.hid (show Fr w w3 (pt (mixF b) b 0) by rw [pt_zero _ _ Hb.out]; exact H0.out)
  clear H0
  go_loopw [3] (fun v3 wr => ∃ m cc : Nat, v3 = .int .i64 (cc : Int) ∧ cc ≤ 16 ∧ Hid (cc = 4 * m) ∧ Hid (Fr w wr (pt (mixF b) b cc))) (fun v3 _ => 16 - (intOf v3).toNat)
  case atStart => exact ⟨0, 0, rfl, by omega, rfl, H1.out⟩
  case round =>
    clear H1
    obtain ⟨m, cc, rfl, hcc, Hm, H⟩ := hrel
    by_cases hlt : cc < 16
    · obtain ⟨i1, hi1⟩ : ∃ x, x = cc + 1 := ⟨_, rfl⟩
      obtain ⟨i2, hi2⟩ : ∃ x, x = cc + 2 := ⟨_, rfl⟩
      obtain ⟨i3, hi3⟩ : ∃ x, x = cc + 3 := ⟨_, rfl⟩
      have h13 : i3 < 16 := by have := Hm.out; omega
      have e1 : (cc : Int) + 1 = (i1 : Int) := by omega
      have e2 : (cc : Int) + 2 = (i2 : Int) := by omega
      have e3 : (cc : Int) + 3 = (i3 : Int) := by omega
      have f1 := wrap_i64 i1 (by omega)
      have f2 := wrap_i64 i2 (by omega)
      have f3 := wrap_i64 i3 (by omega)
      have l0 : (cc : Int) < 16 := by omega
      have l1 : (i1 : Int) < 16 := by omega
      have l2 : (i2 : Int) < 16 := by omega
      have l3 : (i3 : Int) < 16 := by omega
      obtain ⟨a, ha⟩ : ∃ x, x = gt b cc := ⟨_, rfl⟩
      obtain ⟨b1, hb1⟩ : ∃ x, x = gt b i1 := ⟨_, rfl⟩
      obtain ⟨c, hc⟩ : ∃ x, x = gt b i2 := ⟨_, rfl⟩
      obtain ⟨d, hd⟩ : ∃ x, x = gt b i3 := ⟨_, rfl⟩
      have hcell : ∀ k, k < 16 → cc ≤ k → wr.cell? ⟨w.heap.size, k, none⟩ = some (.int .u8 ((gt b k).toNat : Int)) := fun k hk hk2 => by
        rw [H.out.cell k (by rw [pt_len]; exact hk), gt_pt _ _ _ _ hk, if_neg (by omega)]
      have c0 := hcell cc hlt (by omega)
      have c1 := hcell i1 (by omega) (by omega)
      have c2 := hcell i2 (by omega) (by omega)
      have c3 := hcell i3 (by omega) (by omega)
      rw [← ha] at c0
      rw [← hb1] at c1
      rw [← hc] at c2
      rw [← hd] at c3
      obtain ⟨x1, hx1⟩ : ∃ x, x = a ^^^ b1 := ⟨_, rfl⟩
      obtain ⟨x2, hx2⟩ : ∃ x, x = x1 ^^^ c := ⟨_, rfl⟩
      obtain ⟨s, hs⟩ : ∃ x, x = x2 ^^^ d := ⟨_, rfl⟩
      have q1 : bits .xor .u8 (a.toNat : Int) (b1.toNat : Int) = (x1.toNat : Int) := by rw [hx1]; exact xor_u8 _ _
      have q2 : bits .xor .u8 (x1.toNat : Int) (c.toNat : Int) = (x2.toNat : Int) := by rw [hx2]; exact xor_u8 _ _
      have q3 : bits .xor .u8 (x2.toNat : Int) (d.toNat : Int) = (s.toNat : Int) := by rw [hs]; exact xor_u8 _ _
      obtain ⟨y2, hy2⟩ : ∃ x, x = b1 ^^^ c := ⟨_, rfl⟩
      obtain ⟨y3, hy3⟩ : ∃ x, x = c ^^^ d := ⟨_, rfl⟩
      obtain ⟨y4, hy4⟩ : ∃ x, x = d ^^^ a := ⟨_, rfl⟩
      have q4 : bits .xor .u8 (b1.toNat : Int) (c.toNat : Int) = (y2.toNat : Int) := by rw [hy2]; exact xor_u8 _ _
      have q5 : bits .xor .u8 (c.toNat : Int) (d.toNat : Int) = (y3.toNat : Int) := by rw [hy3]; exact xor_u8 _ _
      have q6 : bits .xor .u8 (d.toNat : Int) (a.toNat : Int) = (y4.toNat : Int) := by rw [hy4]; exact xor_u8 _ _
      obtain ⟨u1, hu1⟩ : ∃ x, x = a ^^^ s := ⟨_, rfl⟩
      obtain ⟨u2, hu2⟩ : ∃ x, x = b1 ^^^ s := ⟨_, rfl⟩
      obtain ⟨u3, hu3⟩ : ∃ x, x = c ^^^ s := ⟨_, rfl⟩
      obtain ⟨u4, hu4⟩ : ∃ x, x = d ^^^ s := ⟨_, rfl⟩
      have r1 : bits .xor .u8 (a.toNat : Int) (s.toNat : Int) = (u1.toNat : Int) := by rw [hu1]; exact xor_u8 _ _
      have r2 : bits .xor .u8 (b1.toNat : Int) (s.toNat : Int) = (u2.toNat : Int) := by rw [hu2]; exact xor_u8 _ _
      have r3 : bits .xor .u8 (c.toNat : Int) (s.toNat : Int) = (u3.toNat : Int) := by rw [hu3]; exact xor_u8 _ _
      have r4 : bits .xor .u8 (d.toNat : Int) (s.toNat : Int) = (u4.toNat : Int) := by rw [hu4]; exact xor_u8 _ _
      obtain ⟨v1, hv1⟩ : ∃ x, x = dbl x1 := ⟨_, rfl⟩
      obtain ⟨v2, hv2⟩ : ∃ x, x = dbl y2 := ⟨_, rfl⟩
      obtain ⟨v3, hv3⟩ : ∃ x, x = dbl y3 := ⟨_, rfl⟩
      obtain ⟨v4, hv4⟩ : ∃ x, x = dbl y4 := ⟨_, rfl⟩
      obtain ⟨z1, hz1⟩ : ∃ x, x = u1 ^^^ v1 := ⟨_, rfl⟩
      obtain ⟨z2, hz2⟩ : ∃ x, x = u2 ^^^ v2 := ⟨_, rfl⟩
      obtain ⟨z3, hz3⟩ : ∃ x, x = u3 ^^^ v3 := ⟨_, rfl⟩
      obtain ⟨z4, hz4⟩ : ∃ x, x = u4 ^^^ v4 := ⟨_, rfl⟩
      have s1 : bits .xor .u8 (u1.toNat : Int) (v1.toNat : Int) = (z1.toNat : Int) := by rw [hz1]; exact xor_u8 _ _
      have s2 : bits .xor .u8 (u2.toNat : Int) (v2.toNat : Int) = (z2.toNat : Int) := by rw [hz2]; exact xor_u8 _ _
      have s3 : bits .xor .u8 (u3.toNat : Int) (v3.toNat : Int) = (z3.toNat : Int) := by rw [hz3]; exact xor_u8 _ _
      have s4 : bits .xor .u8 (u4.toNat : Int) (v4.toNat : Int) = (z4.toNat : Int) := by rw [hz4]; exact xor_u8 _ _
      have HC1 := Lib.hid (fun W => show Calls Try.prog 23 #[.int .u8 (x1.toNat : Int)] W (fun e w' => e = .returned (.int .u8 (v1.toNat : Int)) ∧ w' = W) by rw [hv1]; exact double_any x1 W)
      have HC2 := Lib.hid (fun W => show Calls Try.prog 23 #[.int .u8 (y2.toNat : Int)] W (fun e w' => e = .returned (.int .u8 (v2.toNat : Int)) ∧ w' = W) by rw [hv2]; exact double_any y2 W)
      have HC3 := Lib.hid (fun W => show Calls Try.prog 23 #[.int .u8 (y3.toNat : Int)] W (fun e w' => e = .returned (.int .u8 (v3.toNat : Int)) ∧ w' = W) by rw [hv3]; exact double_any y3 W)
      have HC4 := Lib.hid (fun W => show Calls Try.prog 23 #[.int .u8 (y4.toNat : Int)] W (fun e w' => e = .returned (.int .u8 (v4.toNat : Int)) ∧ w' = W) by rw [hv4]; exact double_any y4 W)
      obtain ⟨m1, m2, m3, m4⟩ := mixF_col b m cc Hm.out hlt
      obtain ⟨n1, n2, n3, n4⟩ := mix_col a b1 c d s (by rw [hs, hx2, hx1])
      rw [← hi1, ← hi2, ← hi3, ← ha, ← hb1, ← hc, ← hd] at m1
      rw [← hi1, ← hi2, ← hi3, ← ha, ← hb1, ← hc, ← hd] at m2
      rw [← hi1, ← hi2, ← hi3, ← ha, ← hb1, ← hc, ← hd] at m3
      rw [← hi1, ← hi2, ← hi3, ← ha, ← hb1, ← hc, ← hd] at m4
      have HZ1 := Lib.hid (show z1 = mixF b cc by rw [m1, ← n1, hz1, hu1, hv1, hx1])
      have HZ2 := Lib.hid (show z2 = mixF b i1 by rw [m2, ← n2, hz2, hu2, hv2, hy2])
      have HZ3 := Lib.hid (show z3 = mixF b i2 by rw [m3, ← n3, hz3, hu3, hv3, hy3])
      have HZ4 := Lib.hid (show z4 = mixF b i3 by rw [m4, ← n4, hz4, hu4, hv4, hy4])
      have HI1 := Lib.hid hi1
      have HI2 := Lib.hid hi2
      have HI3 := Lib.hid hi3
      clear hi1 hi2 hi3 ha hb1 hc hd hx1 hx2 hs hy2 hy3 hy4 hu1 hu2 hu3 hu4 hv1 hv2 hv3 hv4 hz1 hz2 hz3 hz4 m1 m2 m3 m4 n1 n2 n3 n4 hcell
      go_wp2_with fail
      go_quiet (fail)
      have H1 := Lib.hid (H.out.drewN nq)
      clear H c0 c1 c2 c3
      generalize wr.drewN nq = w4 at H1 ⊢
      go_wp2_with fail
      refine (HC1.out _).mono ?_
      rintro e w' ⟨rfl, hw'⟩
      subst w'
      have yc := H1.out.cell cc (by rw [pt_len]; omega)
      have yf := H1.out.free cc
      go_wp2_with fail
      have H2 := Lib.hid (show Fr w (w4.setCell ⟨w.heap.size, cc, none⟩ (.int .u8 (z1.toNat : Int))) (pt (mixF b) b i1) by
        rw [show i1 = cc + 1 by have := HI1.out; have := HI2.out; have := HI3.out; omega, ← pt_set, ← HZ1.out]; exact H1.out.put _ z1)
      clear H1 yc yf
      generalize w4.setCell _ _ = w5 at H2 ⊢
      refine (HC2.out _).mono ?_
      rintro e w' ⟨rfl, hw'⟩
      subst w'
      have yc := H2.out.cell i1 (by rw [pt_len]; omega)
      have yf := H2.out.free i1
      go_wp2_with fail
      have H3 := Lib.hid (show Fr w (w5.setCell ⟨w.heap.size, i1, none⟩ (.int .u8 (z2.toNat : Int))) (pt (mixF b) b i2) by
        rw [show i2 = i1 + 1 by have := HI1.out; have := HI2.out; have := HI3.out; omega, ← pt_set, ← HZ2.out]; exact H2.out.put _ z2)
      clear H2 yc yf
      generalize w5.setCell _ _ = w6 at H3 ⊢
      refine (HC3.out _).mono ?_
      rintro e w' ⟨rfl, hw'⟩
      subst w'
      have yc := H3.out.cell i2 (by rw [pt_len]; omega)
      have yf := H3.out.free i2
      go_wp2_with fail
      have H4 := Lib.hid (show Fr w (w6.setCell ⟨w.heap.size, i2, none⟩ (.int .u8 (z3.toNat : Int))) (pt (mixF b) b i3) by
        rw [show i3 = i2 + 1 by have := HI1.out; have := HI2.out; have := HI3.out; omega, ← pt_set, ← HZ3.out]; exact H3.out.put _ z3)
      clear H3 yc yf
      generalize w6.setCell _ _ = w7 at H4 ⊢
      refine (HC4.out _).mono ?_
      rintro e w' ⟨rfl, hw'⟩
      subst w'
      have yc := H4.out.cell i3 (by rw [pt_len]; omega)
      have yf := H4.out.free i3
      go_wp2
      go_roundw
      case rel => exact ⟨m + 1, cc + 4, by go_num, by have := HI3.out; omega, (by show cc + 4 = 4 * (m + 1); have := Hm.out; omega), (by rw [show cc + 4 = i3 + 1 by have := HI3.out; omega, ← pt_set, ← HZ4.out]; exact H4.out.put i3 z4)⟩
      case measure => simp [intOf]; omega
    · have H2 := Lib.hid (show Fr w wr (mixS b) by have := H.out; rw [show cc = 16 by omega, pt_all] at this; exact this)
      have bt : ¬ (cc : Int) < 16 := by omega
      have HR := Lib.hid (mixS_len b)
      obtain ⟨R, hR⟩ : ∃ R, R = mixS b := ⟨_, rfl⟩
      rw [← hR] at H2 HR
      have HE := Lib.hid hR
      clear H hR
      go_wp2_with (first
        | (refine wpList_load_fr rfl (.tmp 1) rfl rfl H2.out HR.out ?_)
        | (refine wpList_store_res rfl (.tmp 2) (.tmp 78) rfl rfl rfl H2.out HR.out ?_
           intro w9 h9
           have H9 := Lib.hid h9
           clear h9))
      exact ret_fr rfl rfl H9.out HR.out ⟨by rw [HE.out], H9.out.1⟩
end Go.Proofs.Ytgfmdjagggnfbaa.S7
