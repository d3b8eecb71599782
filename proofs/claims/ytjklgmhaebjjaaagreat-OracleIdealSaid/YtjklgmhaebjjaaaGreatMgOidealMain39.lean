/-
  Acts of the law: units. Acts of the law: what is no unit.
-/
import Derived.Test.YtjklgmhaebjjaaaGreatMgOidealMain32
namespace Go.Proofs.YtjklgmhaebjjaaaGreat.S12
open S11
open Go.RowKit
set_option linter.unusedVariables false
set_option linter.unusedSimpArgs false


set_option maxHeartbeats 8000000 in
set_option maxRecDepth 20000 in
theorem does_unit {M : Mod} {O Q : Ob M} {B P G R : Nat} (KP : ProgOk M B O) (KR : RefOk M B Q) (w : World) (F F2 : Nat → Prop) (st : M.σ) (i : Nat) (h : Two M O Q B P G R w F F2 st st) (hi : M.num st i) (hi2 : i ≤ 190) (n number : Int) (Ak : Option Addr) (nk ck : Nat) (key : List UInt8) (Ax1 : Option Addr) (nx cx : Nat) (X : List UInt8) (hk : Rd w B Ak key) (hkl : key.length = nk) (hkc : nk ≤ ck) (hk2 : nk ≤ 100) (hx : Rd w B Ax1 X) (hxl : X.length = nx) (hxc : nx ≤ cx) (hx2 : nx ≤ 1100) (hn1 : 0 ≤ number) (hn2 : number < 9223372036854775808) (h64 : nk = 64) (hx16 : 16 ≤ nx) (hx100 : nx ≤ 100) (hxm : nx % 16 = 0) :
    Calls Tryz.prog 8 #[.pointer (some ⟨P, 0, none⟩), .agg #[.int .i64 3, .int .i64 n, .int .i64 number, .slice Ak nk ck, .slice Ax1 nx cx]] w fun e w' => ∃ st', M.num st' (i + 5) ∧ Does M O Q B P G R w st' e w' := by
  have HR := Lib.hid (show rightB nk number nx = true from decide_eq_true (by omega))
  have H64 := Lib.hid h64
  have Hxm := Lib.hid hxm
  clear h64 hxm
  have H0 := Lib.hid h
  have HI := Lib.hid hi
  have HBw := Lib.hid h.bw
  have HK := Lib.hid hk
  have HX := Lib.hid hx
  have HKl := Lib.hid hkl
  have HXl := Lib.hid hxl
  have AA := Lib.hid (h.act KP.toKept KR.toKept (n := n) (number := number) (Vk := .slice Ak nk ck) (Vx := .slice Ax1 nx cx) 3)
  have TA := Lib.hid (h.grow KP.toKept KR.toKept (alloc_below w (.cells #[.int .i64 3, .int .i64 n, .int .i64 number, .slice Ak nk ck, .slice Ax1 nx cx] 38)))
  have GA := Lib.hid (alloc_below w (.cells #[.int .i64 3, .int .i64 n, .int .i64 number, .slice Ak nk ck, .slice Ax1 nx cx] 38))
  clear h hi hk hx hkl hxl
  go_enter Tryz.func8, Tryz.ntmps8
  go_wp2_with fail
  obtain ⟨ba, hba⟩ : ∃ ba, ba = w.heap.size := ⟨_, rfl⟩
  rw [← hba] at AA ⊢
  generalize w.alloc _ = wa at TA GA AA ⊢
  have HBa := Lib.hid hba
  have KA := Lib.hid (HK.out.below (Below.mono GA.out HBw.out))
  have XA := Lib.hid (HX.out.below (Below.mono GA.out HBw.out))
  have CA := Lib.hid (show Below B w wa from Below.mono GA.out HBw.out)
  clear H0 HK HX GA hba
  try simp only [Act.put, List.setIfInBounds_toArray, List.set_cons_zero, List.set_cons_succ]
  refine restS_begin (Fx P G R ba n number (.slice Ak nk ck) (.slice Ax1 nx cx)) (by kernel_rfl) ?_
  have T0 := Lib.hid (TA.out.grow KP.toKept KR.toKept (show Grown wa wa.drew from (Below.refl _ wa).drew))
  have A0 := Lib.hid (AA.out.grow (show Grown wa wa.drew from (Below.refl _ wa).drew))
  have K0 := Lib.hid (show Rd wa.drew B Ak key from KA.out)
  have X0 := Lib.hid (show Rd wa.drew B Ax1 X from XA.out)
  have C0 := Lib.hid (show Below B w wa.drew from CA.out.drew)
  clear TA AA KA XA CA
  generalize wa.drew = w0 at T0 A0 K0 X0 C0 ⊢
  have S0 := Lib.hid (T0.out.fx A0.out)
  refine restS_take (i := 0) S0.out rfl (by kernel_rfl) (by kernel_rfl) (by kernel_rfl) (by rfl) (fun v hv => by obtain ⟨v1, v2, v3, v4, v5, v6⟩ := hv; go_simp; try with_reducible rfl) ?_
  try simp only [Act.put, List.setIfInBounds_toArray, List.set_cons_zero, List.set_cons_succ]
  refine restS_take (i := 1) S0.out rfl (by kernel_rfl) (by kernel_rfl) (by kernel_rfl) (by rfl) (fun v hv => by obtain ⟨v1, v2, v3, v4, v5, v6⟩ := hv; go_simp; try with_reducible rfl) ?_
  try simp only [Act.put, List.setIfInBounds_toArray, List.set_cons_zero, List.set_cons_succ]
  refine restS_take (i := 2) S0.out rfl (by kernel_rfl) (by kernel_rfl) (by kernel_rfl) (by rfl) (fun v hv => by obtain ⟨v1, v2, v3, v4, v5, v6⟩ := hv; go_simp; try with_reducible rfl) ?_
  try simp only [Act.put, List.setIfInBounds_toArray, List.set_cons_zero, List.set_cons_succ]
  refine restS_take (i := 3) S0.out rfl (by kernel_rfl) (by kernel_rfl) (by kernel_rfl) (by rfl) (fun v hv => by obtain ⟨v1, v2, v3, v4, v5, v6⟩ := hv; go_simp; try with_reducible rfl) ?_
  try simp only [Act.put, List.setIfInBounds_toArray, List.set_cons_zero, List.set_cons_succ]
  refine restS_take (i := 4) S0.out rfl (by kernel_rfl) (by kernel_rfl) (by kernel_rfl) (by rfl) (fun v hv => by obtain ⟨v1, v2, v3, v4, v5, v6⟩ := hv; go_simp; try with_reducible rfl) ?_
  try simp only [Act.put, List.setIfInBounds_toArray, List.set_cons_zero, List.set_cons_succ]
  refine restS_take (i := 5) S0.out rfl (by kernel_rfl) (by kernel_rfl) (by kernel_rfl) (by rfl) (fun v hv => by obtain ⟨v1, v2, v3, v4, v5, v6⟩ := hv; go_simp; try with_reducible rfl) ?_
  try simp only [Act.put, List.setIfInBounds_toArray, List.set_cons_zero, List.set_cons_succ]
  refine restS_take (i := 6) S0.out rfl (by kernel_rfl) (by kernel_rfl) (by kernel_rfl) (by rfl) (fun v hv => by obtain ⟨v1, v2, v3, v4, v5, v6⟩ := hv; go_simp; try with_reducible rfl) ?_
  try simp only [Act.put, List.setIfInBounds_toArray, List.set_cons_zero, List.set_cons_succ]
  refine restS_take (i := 7) S0.out rfl (by kernel_rfl) (by kernel_rfl) (by kernel_rfl) (by rfl) (fun v hv => by obtain ⟨v1, v2, v3, v4, v5, v6⟩ := hv; go_simp; try with_reducible rfl) ?_
  try simp only [Act.put, List.setIfInBounds_toArray, List.set_cons_zero, List.set_cons_succ]
  refine restS_take (i := 8) S0.out rfl (by kernel_rfl) (by kernel_rfl) (by kernel_rfl) (by rfl) (fun v hv => by obtain ⟨v1, v2, v3, v4, v5, v6⟩ := hv; go_simp; try with_reducible rfl) ?_
  try simp only [Act.put, List.setIfInBounds_toArray, List.set_cons_zero, List.set_cons_succ]
  refine restS_take (i := 9) S0.out rfl (by kernel_rfl) (by kernel_rfl) (by kernel_rfl) (by rfl) (fun v hv => by obtain ⟨v1, v2, v3, v4, v5, v6⟩ := hv; go_simp; try with_reducible rfl) ?_
  try simp only [Act.put, List.setIfInBounds_toArray, List.set_cons_zero, List.set_cons_succ]
  refine restS_lone (i := 10) rfl (by kernel_rfl) (by rfl) (fun K hK => ?_)
  go_simp
  refine (KP.unit w0 G F st i Ak nk ck key number Ax1 nx cx X T0.out.p HI.out (by omega) (T0.out.besP K0.out HKl.out hkc) H64.out hn1 hn2 (T0.out.besP X0.out HXl.out hxc) hx16 hx100 Hxm.out).mono ?_
  rintro e w1 ⟨Ay, c3, rfl, hc3, hr3, hnw3, F', hO, hF', hC, ho3⟩
  obtain ⟨Y, hY⟩ : ∃ Y, Y = (M.unit st key number X).1 := ⟨_, rfl⟩
  obtain ⟨st', hst'⟩ : ∃ s, s = (M.unit st key number X).2 := ⟨_, rfl⟩
  rw [← hst'] at hO
  rw [← hY] at hr3 ho3
  have HY := Lib.hid hY
  have HS := Lib.hid hst'
  have HYl := Lib.hid (show Y.length = nx by rw [hY, M.len_unit st i _ _ _ HI.out]; exact HXl.out)
  have HNm1 := Lib.hid (show M.num st' (i + 1) by rw [hst']; exact M.num_unit st i _ _ _ HI.out (by omega))
  have HUn := Lib.hid (show M.ununit st' key number Y = (X, st') by rw [hst', hY]; exact M.un_unit st i _ _ _ HI.out (ne_of16 HXl.out hx16))
  have B3 := Lib.hid (show Bes w1 F' Ay nx c3 Y from ⟨hr3, HYl.out, hc3, ho3⟩)
  have O3 := Lib.hid (show Off F2 Ay Y from fun x hx _ hf => by
    have h1 := hnw3 x hx
    have h2 := KR.foot w0 R F2 st T0.out.r _ hf
    omega)
  have T1 := Lib.hid (T0.out.stepP KP.toKept KR.toKept hO hF' hC)
  have A1 := Lib.hid (A0.out.stepP hF' hC)
  have C1 := Lib.hid (Below.trans C0.out (ch_below hC T0.out.pB T0.out.bw))
  have K1 := Lib.hid (K0.out.below (ch_below hC T0.out.pB T0.out.bw))
  have X1 := Lib.hid (X0.out.below (ch_below hC T0.out.pB T0.out.bw))
  have S1 := Lib.hid (T1.out.fx A1.out)
  clear hO hF' hC
  clear hY hst' hr3 hnw3 ho3
  refine hK.out _ _ S1.out ?_
  clear hK K T0 A0 C0 K0 X0 S0
  try simp only [Act.put, List.setIfInBounds_toArray, List.set_cons_zero, List.set_cons_succ]
  refine restS_take (i := 11) S1.out rfl (by kernel_rfl) (by kernel_rfl) (by kernel_rfl) (by rfl) (fun v hv => by obtain ⟨v1, v2, v3, v4, v5, v6⟩ := hv; go_simp; try with_reducible rfl) ?_
  try simp only [Act.put, List.setIfInBounds_toArray, List.set_cons_zero, List.set_cons_succ]
  refine restS_take (i := 12) S1.out rfl (by kernel_rfl) (by kernel_rfl) (by kernel_rfl) (by rfl) (fun v hv => by obtain ⟨v1, v2, v3, v4, v5, v6⟩ := hv; go_simp; try with_reducible rfl) ?_
  try simp only [Act.put, List.setIfInBounds_toArray, List.set_cons_zero, List.set_cons_succ]
  refine restS_take (i := 13) S1.out rfl (by kernel_rfl) (by kernel_rfl) (by kernel_rfl) (by rfl) (fun v hv => by obtain ⟨v1, v2, v3, v4, v5, v6⟩ := hv; go_simp; try with_reducible rfl) ?_
  try simp only [Act.put, List.setIfInBounds_toArray, List.set_cons_zero, List.set_cons_succ]
  refine restS_take (i := 14) S1.out rfl (by kernel_rfl) (by kernel_rfl) (by kernel_rfl) (by rfl) (fun v hv => by obtain ⟨v1, v2, v3, v4, v5, v6⟩ := hv; go_simp; try with_reducible rfl) ?_
  try simp only [Act.put, List.setIfInBounds_toArray, List.set_cons_zero, List.set_cons_succ]
  refine restS_take (i := 15) S1.out rfl (by kernel_rfl) (by kernel_rfl) (by kernel_rfl) (by rfl) (fun v hv => by obtain ⟨v1, v2, v3, v4, v5, v6⟩ := hv; go_simp; try with_reducible rfl) ?_
  try simp only [Act.put, List.setIfInBounds_toArray, List.set_cons_zero, List.set_cons_succ]
  refine restS_done (by kernel_rfl) ?_
  have hc2 := A1.out.c2
  have hc3' := A1.out.c3
  have hc4 := A1.out.c4
  go_wp2_with fail
  refine (refRight_any Ak nk ck number Ax1 nx cx w1 hk2 hx2).mono ?_
  rintro e w1' ⟨rfl, hw⟩
  subst hw
  rw [HR.out]
  clear hc2 hc3' hc4 S1
  go_wp2_with fail
  have GB := Lib.hid (show Grown w1' w1'.drew from (Below.refl _ w1').drew)
  have BD := Lib.hid (B3.out.grow GB.out)
  clear GB
  try simp only [Act.put, List.setIfInBounds_toArray, List.set_cons_zero, List.set_cons_succ]
  refine restS_begin (Fx P G R ba n number (.slice Ak nk ck) (.slice Ax1 nx cx)) (by kernel_rfl) ?_
  have T2 := Lib.hid (T1.out.grow KP.toKept KR.toKept (show Grown w1' w1'.drew from (Below.refl _ w1').drew))
  have A2 := Lib.hid (A1.out.grow (show Grown w1' w1'.drew from (Below.refl _ w1').drew))
  have K2 := Lib.hid (show Rd w1'.drew B Ak key from K1.out)
  have X2 := Lib.hid (show Rd w1'.drew B Ax1 X from X1.out)
  have C2 := Lib.hid (show Below B w w1'.drew from C1.out.drew)
  clear T1 A1 K1 X1 C1
  generalize w1'.drew = w2 at T2 A2 K2 X2 C2 BD ⊢
  have S2 := Lib.hid (T2.out.fx A2.out)
  refine restS_take (i := 0) S2.out rfl (by kernel_rfl) (by kernel_rfl) (by kernel_rfl) (by rfl) (fun v hv => by obtain ⟨v1, v2, v3, v4, v5, v6⟩ := hv; go_simp; try with_reducible rfl) ?_
  try simp only [Act.put, List.setIfInBounds_toArray, List.set_cons_zero, List.set_cons_succ]
  refine restS_take (i := 1) S2.out rfl (by kernel_rfl) (by kernel_rfl) (by kernel_rfl) (by rfl) (fun v hv => by obtain ⟨v1, v2, v3, v4, v5, v6⟩ := hv; go_simp; try with_reducible rfl) ?_
  try simp only [Act.put, List.setIfInBounds_toArray, List.set_cons_zero, List.set_cons_succ]
  refine restS_take (i := 2) S2.out rfl (by kernel_rfl) (by kernel_rfl) (by kernel_rfl) (by rfl) (fun v hv => by obtain ⟨v1, v2, v3, v4, v5, v6⟩ := hv; go_simp; try with_reducible rfl) ?_
  try simp only [Act.put, List.setIfInBounds_toArray, List.set_cons_zero, List.set_cons_succ]
  refine restS_take (i := 3) S2.out rfl (by kernel_rfl) (by kernel_rfl) (by kernel_rfl) (by rfl) (fun v hv => by obtain ⟨v1, v2, v3, v4, v5, v6⟩ := hv; go_simp; try with_reducible rfl) ?_
  try simp only [Act.put, List.setIfInBounds_toArray, List.set_cons_zero, List.set_cons_succ]
  refine restS_take (i := 4) S2.out rfl (by kernel_rfl) (by kernel_rfl) (by kernel_rfl) (by rfl) (fun v hv => by obtain ⟨v1, v2, v3, v4, v5, v6⟩ := hv; go_simp; try with_reducible rfl) ?_
  try simp only [Act.put, List.setIfInBounds_toArray, List.set_cons_zero, List.set_cons_succ]
  refine restS_take (i := 5) S2.out rfl (by kernel_rfl) (by kernel_rfl) (by kernel_rfl) (by rfl) (fun v hv => by obtain ⟨v1, v2, v3, v4, v5, v6⟩ := hv; go_simp; try with_reducible rfl) ?_
  try simp only [Act.put, List.setIfInBounds_toArray, List.set_cons_zero, List.set_cons_succ]
  refine restS_take (i := 6) S2.out rfl (by kernel_rfl) (by kernel_rfl) (by kernel_rfl) (by rfl) (fun v hv => by obtain ⟨v1, v2, v3, v4, v5, v6⟩ := hv; go_simp; try with_reducible rfl) ?_
  try simp only [Act.put, List.setIfInBounds_toArray, List.set_cons_zero, List.set_cons_succ]
  refine restS_take (i := 7) S2.out rfl (by kernel_rfl) (by kernel_rfl) (by kernel_rfl) (by rfl) (fun v hv => by obtain ⟨v1, v2, v3, v4, v5, v6⟩ := hv; go_simp; try with_reducible rfl) ?_
  try simp only [Act.put, List.setIfInBounds_toArray, List.set_cons_zero, List.set_cons_succ]
  refine restS_take (i := 8) S2.out rfl (by kernel_rfl) (by kernel_rfl) (by kernel_rfl) (by rfl) (fun v hv => by obtain ⟨v1, v2, v3, v4, v5, v6⟩ := hv; go_simp; try with_reducible rfl) ?_
  try simp only [Act.put, List.setIfInBounds_toArray, List.set_cons_zero, List.set_cons_succ]
  refine restS_lone (i := 9) rfl (by kernel_rfl) (by rfl) (fun K hK => ?_)
  go_simp
  refine (KP.ununit w2 G F' st' (i + 1) Ak nk ck key number Ay nx c3 Y T2.out.p HNm1.out (by omega) (T2.out.besP K2.out HKl.out hkc) H64.out hn1 hn2 BD.out hx16 hx100 Hxm.out).mono ?_
  rw [HUn.out]
  rintro e w3 ⟨Az, c4, rfl, hc4, hl4, hr4, hnw4, F'', hO, hF', hC⟩
  have R3 := Lib.hid (BD.out.ch hC)
  have R4 := Lib.hid hr4
  have O4 := Lib.hid (show Off F2 Az X from fun x hx _ hf => by
    have h1 := hnw4 x hx
    have h2 := KR.foot w2 R F2 st T2.out.r _ hf
    omega)
  have T3 := Lib.hid (T2.out.stepP KP.toKept KR.toKept hO hF' hC)
  have A3 := Lib.hid (A2.out.stepP hF' hC)
  have C3 := Lib.hid (Below.trans C2.out (ch_below hC T2.out.pB T2.out.bw))
  have K3 := Lib.hid (K2.out.below (ch_below hC T2.out.pB T2.out.bw))
  have X3 := Lib.hid (X2.out.below (ch_below hC T2.out.pB T2.out.bw))
  have S3 := Lib.hid (T3.out.fx A3.out)
  clear hO hF' hC
  clear hr4 hnw4 BD B3 hl4
  refine hK.out _ _ S3.out ?_
  clear hK K T2 A2 C2 K2 X2 S2
  try simp only [Act.put, List.setIfInBounds_toArray, List.set_cons_zero, List.set_cons_succ]
  refine restS_take (i := 10) S3.out rfl (by kernel_rfl) (by kernel_rfl) (by kernel_rfl) (by rfl) (fun v hv => by obtain ⟨v1, v2, v3, v4, v5, v6⟩ := hv; go_simp; try with_reducible rfl) ?_
  try simp only [Act.put, List.setIfInBounds_toArray, List.set_cons_zero, List.set_cons_succ]
  refine restS_take (i := 11) S3.out rfl (by kernel_rfl) (by kernel_rfl) (by kernel_rfl) (by rfl) (fun v hv => by obtain ⟨v1, v2, v3, v4, v5, v6⟩ := hv; go_simp; try with_reducible rfl) ?_
  try simp only [Act.put, List.setIfInBounds_toArray, List.set_cons_zero, List.set_cons_succ]
  refine restS_take (i := 12) S3.out rfl (by kernel_rfl) (by kernel_rfl) (by kernel_rfl) (by rfl) (fun v hv => by obtain ⟨v1, v2, v3, v4, v5, v6⟩ := hv; go_simp; try with_reducible rfl) ?_
  try simp only [Act.put, List.setIfInBounds_toArray, List.set_cons_zero, List.set_cons_succ]
  refine restS_take (i := 13) S3.out rfl (by kernel_rfl) (by kernel_rfl) (by kernel_rfl) (by rfl) (fun v hv => by obtain ⟨v1, v2, v3, v4, v5, v6⟩ := hv; go_simp; try with_reducible rfl) ?_
  try simp only [Act.put, List.setIfInBounds_toArray, List.set_cons_zero, List.set_cons_succ]
  refine restS_take (i := 14) S3.out rfl (by kernel_rfl) (by kernel_rfl) (by kernel_rfl) (by rfl) (fun v hv => by obtain ⟨v1, v2, v3, v4, v5, v6⟩ := hv; go_simp; try with_reducible rfl) ?_
  try simp only [Act.put, List.setIfInBounds_toArray, List.set_cons_zero, List.set_cons_succ]
  refine restS_done (by kernel_rfl) ?_
  go_wp2_with fail
  obtain ⟨SY, hSY⟩ : ∃ S : ByteArray, S = ⟨Y.toArray⟩ := ⟨_, rfl⟩
  obtain ⟨SX, hSX⟩ : ∃ S : ByteArray, S = ⟨X.toArray⟩ := ⟨_, rfl⟩
  have HSY := Lib.hid hSY
  have HSX := Lib.hid hSX
  clear hSY hSX
  have HCv := Lib.hid (show ∀ v, Ch F2 w3 v → (convert 22 9 (.slice Ay nx c3)).run Tryz.prog v = .ok (.string SY) v ∧ (convert 22 9 (.slice Az nx c4)).run Tryz.prog v = .ok (.string SX) v ∧ (convert 22 9 (.slice Ax1 nx cx)).run Tryz.prog v = .ok (.string SX) v from fun v hv => by
    have e1 := conv (rd_ch R3.out O3.out hv) c3
    have e2 := conv (rd_ch R4.out O4.out hv) c4
    have e3 := conv (rd_ch (X3.out.more T3.out.bw) (off_below X3.out T3.out.rB) hv) cx
    rw [HYl.out] at e1
    rw [HXl.out] at e2 e3
    exact ⟨by rw [HSY.out]; exact e1, by rw [HSX.out]; exact e2, by rw [HSX.out]; exact e3⟩)
  try simp only [Act.put, List.setIfInBounds_toArray, List.set_cons_zero, List.set_cons_succ]
  refine restS_begin (fun v : World => Fx P G R ba n number (.slice Ak nk ck) (.slice Ax1 nx cx) v ∧ (convert 22 9 (.slice Ay nx c3)).run Tryz.prog v = .ok (.string SY) v ∧ (convert 22 9 (.slice Az nx c4)).run Tryz.prog v = .ok (.string SX) v ∧ (convert 22 9 (.slice Ax1 nx cx)).run Tryz.prog v = .ok (.string SX) v) (by kernel_rfl) ?_
  have GD := Lib.hid (show Grown w3 w3.drew from (Below.refl _ w3).drew)
  have T4 := Lib.hid (T3.out.grow KP.toKept KR.toKept GD.out)
  have A4' := Lib.hid (A3.out.grow GD.out)
  have K4 := Lib.hid (show Rd w3.drew B Ak key from K3.out)
  have X4 := Lib.hid (show Rd w3.drew B Ax1 X from X3.out)
  have C4 := Lib.hid (show Below B w w3.drew from C3.out.drew)
  generalize w3.drew = w4 at GD T4 A4' K4 X4 C4 ⊢
  have S4 := Lib.hid (show Fx P G R ba n number (.slice Ak nk ck) (.slice Ax1 nx cx) w4 ∧ (convert 22 9 (.slice Ay nx c3)).run Tryz.prog w4 = .ok (.string SY) w4 ∧ (convert 22 9 (.slice Az nx c4)).run Tryz.prog w4 = .ok (.string SX) w4 ∧ (convert 22 9 (.slice Ax1 nx cx)).run Tryz.prog w4 = .ok (.string SX) w4 from ⟨T4.out.fx A4'.out, HCv.out w4 (Ch.grown GD.out)⟩)
  clear T3 K3 X3 C3 S3
  refine restS_take (i := 0) S4.out rfl (by kernel_rfl) (by kernel_rfl) (by kernel_rfl) (by rfl) (fun v hv => by obtain ⟨⟨v1, v2, v3, v4, v5, v6⟩, v7, v8, v9⟩ := hv; go_simp; try with_reducible rfl) ?_
  try simp only [Act.put, List.setIfInBounds_toArray, List.set_cons_zero, List.set_cons_succ]
  refine restS_take (i := 1) S4.out rfl (by kernel_rfl) (by kernel_rfl) (by kernel_rfl) (by rfl) (fun v hv => by obtain ⟨⟨v1, v2, v3, v4, v5, v6⟩, v7, v8, v9⟩ := hv; go_simp; try with_reducible rfl) ?_
  try simp only [Act.put, List.setIfInBounds_toArray, List.set_cons_zero, List.set_cons_succ]
  refine restS_take (i := 2) S4.out rfl (by kernel_rfl) (by kernel_rfl) (by kernel_rfl) (by rfl) (fun v hv => by obtain ⟨⟨v1, v2, v3, v4, v5, v6⟩, v7, v8, v9⟩ := hv; go_simp; try with_reducible rfl) ?_
  try simp only [Act.put, List.setIfInBounds_toArray, List.set_cons_zero, List.set_cons_succ]
  refine restS_take (i := 3) S4.out rfl (by kernel_rfl) (by kernel_rfl) (by kernel_rfl) (by rfl) (fun v hv => by obtain ⟨⟨v1, v2, v3, v4, v5, v6⟩, v7, v8, v9⟩ := hv; go_simp; try with_reducible rfl) ?_
  try simp only [Act.put, List.setIfInBounds_toArray, List.set_cons_zero, List.set_cons_succ]
  refine restS_take (i := 4) S4.out rfl (by kernel_rfl) (by kernel_rfl) (by kernel_rfl) (by rfl) (fun v hv => by obtain ⟨⟨v1, v2, v3, v4, v5, v6⟩, v7, v8, v9⟩ := hv; go_simp; try with_reducible rfl) ?_
  try simp only [Act.put, List.setIfInBounds_toArray, List.set_cons_zero, List.set_cons_succ]
  refine restS_take (i := 5) S4.out rfl (by kernel_rfl) (by kernel_rfl) (by kernel_rfl) (by rfl) (fun v hv => by obtain ⟨⟨v1, v2, v3, v4, v5, v6⟩, v7, v8, v9⟩ := hv; go_simp; try with_reducible rfl) ?_
  try simp only [Act.put, List.setIfInBounds_toArray, List.set_cons_zero, List.set_cons_succ]
  refine restS_take (i := 6) S4.out rfl (by kernel_rfl) (by kernel_rfl) (by kernel_rfl) (by rfl) (fun v hv => by obtain ⟨⟨v1, v2, v3, v4, v5, v6⟩, v7, v8, v9⟩ := hv; go_simp; try with_reducible rfl) ?_
  try simp only [Act.put, List.setIfInBounds_toArray, List.set_cons_zero, List.set_cons_succ]
  refine restS_take (i := 7) S4.out rfl (by kernel_rfl) (by kernel_rfl) (by kernel_rfl) (by rfl) (fun v hv => by obtain ⟨⟨v1, v2, v3, v4, v5, v6⟩, v7, v8, v9⟩ := hv; go_simp; try with_reducible rfl) ?_
  try simp only [Act.put, List.setIfInBounds_toArray, List.set_cons_zero, List.set_cons_succ]
  refine restS_take (i := 8) S4.out rfl (by kernel_rfl) (by kernel_rfl) (by kernel_rfl) (by rfl) (fun v hv => by obtain ⟨⟨v1, v2, v3, v4, v5, v6⟩, v7, v8, v9⟩ := hv; go_simp; try with_reducible rfl) ?_
  try simp only [Act.put, List.setIfInBounds_toArray, List.set_cons_zero, List.set_cons_succ]
  refine restS_take (i := 9) S4.out rfl (by kernel_rfl) (by kernel_rfl) (by kernel_rfl) (by rfl) (fun v hv => by obtain ⟨⟨v1, v2, v3, v4, v5, v6⟩, v7, v8, v9⟩ := hv; go_simp; try with_reducible rfl) ?_
  try simp only [Act.put, List.setIfInBounds_toArray, List.set_cons_zero, List.set_cons_succ]
  refine restS_take (i := 10) S4.out rfl (by kernel_rfl) (by kernel_rfl) (by kernel_rfl) (by rfl) (fun v hv => by obtain ⟨⟨v1, v2, v3, v4, v5, v6⟩, v7, v8, v9⟩ := hv; go_simp; try with_reducible rfl) ?_
  try simp only [Act.put, List.setIfInBounds_toArray, List.set_cons_zero, List.set_cons_succ]
  refine restS_take (i := 11) S4.out rfl (by kernel_rfl) (by kernel_rfl) (by kernel_rfl) (by rfl) (fun v hv => by obtain ⟨⟨v1, v2, v3, v4, v5, v6⟩, v7, v8, v9⟩ := hv; go_simp; try with_reducible rfl) ?_
  try simp only [Act.put, List.setIfInBounds_toArray, List.set_cons_zero, List.set_cons_succ]
  refine restS_take (i := 12) S4.out rfl (by kernel_rfl) (by kernel_rfl) (by kernel_rfl) (by rfl) (fun v hv => by obtain ⟨⟨v1, v2, v3, v4, v5, v6⟩, v7, v8, v9⟩ := hv; go_simp; try with_reducible rfl) ?_
  try simp only [Act.put, List.setIfInBounds_toArray, List.set_cons_zero, List.set_cons_succ]
  refine restS_take (i := 13) S4.out rfl (by kernel_rfl) (by kernel_rfl) (by kernel_rfl) (by rfl) (fun v hv => by obtain ⟨⟨v1, v2, v3, v4, v5, v6⟩, v7, v8, v9⟩ := hv; go_simp; try with_reducible rfl) ?_
  try simp only [Act.put, List.setIfInBounds_toArray, List.set_cons_zero, List.set_cons_succ]
  refine restS_take (i := 14) S4.out rfl (by kernel_rfl) (by kernel_rfl) (by kernel_rfl) (by rfl) (fun v hv => by obtain ⟨⟨v1, v2, v3, v4, v5, v6⟩, v7, v8, v9⟩ := hv; go_simp; try with_reducible rfl) ?_
  try simp only [Act.put, List.setIfInBounds_toArray, List.set_cons_zero, List.set_cons_succ]
  refine restS_take (i := 15) S4.out rfl (by kernel_rfl) (by kernel_rfl) (by kernel_rfl) (by rfl) (fun v hv => by obtain ⟨⟨v1, v2, v3, v4, v5, v6⟩, v7, v8, v9⟩ := hv; go_simp; try with_reducible rfl) ?_
  try simp only [Act.put, List.setIfInBounds_toArray, List.set_cons_zero, List.set_cons_succ]
  refine restS_take (i := 16) S4.out rfl (by kernel_rfl) (by kernel_rfl) (by kernel_rfl) (by rfl) (fun v hv => by obtain ⟨⟨v1, v2, v3, v4, v5, v6⟩, v7, v8, v9⟩ := hv; go_simp; try with_reducible rfl) ?_
  try simp only [Act.put, List.setIfInBounds_toArray, List.set_cons_zero, List.set_cons_succ]
  refine restS_take (i := 17) S4.out rfl (by kernel_rfl) (by kernel_rfl) (by kernel_rfl) (by rfl) (fun v hv => by obtain ⟨⟨v1, v2, v3, v4, v5, v6⟩, v7, v8, v9⟩ := hv; go_simp; try with_reducible rfl) ?_
  try simp only [Act.put, List.setIfInBounds_toArray, List.set_cons_zero, List.set_cons_succ]
  refine restS_take (i := 18) S4.out rfl (by kernel_rfl) (by kernel_rfl) (by kernel_rfl) (by rfl) (fun v hv => by obtain ⟨⟨v1, v2, v3, v4, v5, v6⟩, v7, v8, v9⟩ := hv; go_simp; try with_reducible rfl) ?_
  try simp only [Act.put, List.setIfInBounds_toArray, List.set_cons_zero, List.set_cons_succ]
  refine restS_lone (i := 19) rfl (by kernel_rfl) (by rfl) (fun K hK => ?_)
  go_simp
  refine (KR.unit w4 R F2 st i Ak nk ck key number Ax1 nx cx X T4.out.r HI.out (by omega) (T4.out.besR K4.out HKl.out hkc) H64.out hn1 hn2 (T4.out.besR X4.out HXl.out hxc) hx16 hx100 Hxm.out).mono ?_
  rintro e w5 ⟨rfl, F5, hO, hF5, hC⟩
  rw [← HS.out] at hO
  have T5 := Lib.hid (T4.out.stepR KP.toKept KR.toKept hO hF5 hC)
  have A5 := Lib.hid (A4'.out.stepR hF5 hC)
  have C5 := Lib.hid (Below.trans C4.out (ch_below hC T4.out.rB T4.out.bw))
  have S5 := Lib.hid (show Fx P G R ba n number (.slice Ak nk ck) (.slice Ax1 nx cx) w5 ∧ (convert 22 9 (.slice Ay nx c3)).run Tryz.prog w5 = .ok (.string SY) w5 ∧ (convert 22 9 (.slice Az nx c4)).run Tryz.prog w5 = .ok (.string SX) w5 ∧ (convert 22 9 (.slice Ax1 nx cx)).run Tryz.prog w5 = .ok (.string SX) w5 from ⟨T5.out.fx A5.out, HCv.out w5 (Ch.trans (Ch.grown GD.out) hC)⟩)
  clear hO hF5 hC
  rw [← HY.out, ← HSY.out]
  refine hK.out _ _ S5.out ?_
  clear hK K
  try simp only [Act.put, List.setIfInBounds_toArray, List.set_cons_zero, List.set_cons_succ]
  refine restS_take (i := 20) S5.out rfl (by kernel_rfl) (by kernel_rfl) (by kernel_rfl) (by rfl) (fun v hv => by obtain ⟨⟨v1, v2, v3, v4, v5, v6⟩, v7, v8, v9⟩ := hv; go_simp; try with_reducible rfl) ?_
  try simp only [Act.put, List.setIfInBounds_toArray, List.set_cons_zero, List.set_cons_succ]
  refine restS_take (i := 21) S5.out rfl (by kernel_rfl) (by kernel_rfl) (by kernel_rfl) (by rfl) (fun v hv => by obtain ⟨⟨v1, v2, v3, v4, v5, v6⟩, v7, v8, v9⟩ := hv; go_simp; try with_reducible rfl) ?_
  try simp only [Act.put, List.setIfInBounds_toArray, List.set_cons_zero, List.set_cons_succ]
  refine restS_take (i := 22) S5.out rfl (by kernel_rfl) (by kernel_rfl) (by kernel_rfl) (by rfl) (fun v hv => by obtain ⟨⟨v1, v2, v3, v4, v5, v6⟩, v7, v8, v9⟩ := hv; go_simp; try with_reducible rfl) ?_
  try simp only [Act.put, List.setIfInBounds_toArray, List.set_cons_zero, List.set_cons_succ]
  refine restS_take (i := 23) S5.out rfl (by kernel_rfl) (by kernel_rfl) (by kernel_rfl) (by rfl) (fun v hv => by obtain ⟨⟨v1, v2, v3, v4, v5, v6⟩, v7, v8, v9⟩ := hv; go_simp; try with_reducible rfl) ?_
  try simp only [Act.put, List.setIfInBounds_toArray, List.set_cons_zero, List.set_cons_succ]
  refine restS_take (i := 24) S5.out rfl (by kernel_rfl) (by kernel_rfl) (by kernel_rfl) (by rfl) (fun v hv => by obtain ⟨⟨v1, v2, v3, v4, v5, v6⟩, v7, v8, v9⟩ := hv; go_simp; try with_reducible rfl) ?_
  try simp only [Act.put, List.setIfInBounds_toArray, List.set_cons_zero, List.set_cons_succ]
  refine restS_take (i := 25) S5.out rfl (by kernel_rfl) (by kernel_rfl) (by kernel_rfl) (by rfl) (fun v hv => by obtain ⟨⟨v1, v2, v3, v4, v5, v6⟩, v7, v8, v9⟩ := hv; go_simp; try with_reducible rfl) ?_
  try simp only [Act.put, List.setIfInBounds_toArray, List.set_cons_zero, List.set_cons_succ]
  refine restS_take (i := 26) S5.out rfl (by kernel_rfl) (by kernel_rfl) (by kernel_rfl) (by rfl) (fun v hv => by obtain ⟨⟨v1, v2, v3, v4, v5, v6⟩, v7, v8, v9⟩ := hv; go_simp; try with_reducible rfl) ?_
  try simp only [Act.put, List.setIfInBounds_toArray, List.set_cons_zero, List.set_cons_succ]
  refine restS_take (i := 27) S5.out rfl (by kernel_rfl) (by kernel_rfl) (by kernel_rfl) (by rfl) (fun v hv => by obtain ⟨⟨v1, v2, v3, v4, v5, v6⟩, v7, v8, v9⟩ := hv; go_simp; try with_reducible rfl) ?_
  try simp only [Act.put, List.setIfInBounds_toArray, List.set_cons_zero, List.set_cons_succ]
  refine restS_take (i := 28) S5.out rfl (by kernel_rfl) (by kernel_rfl) (by kernel_rfl) (by rfl) (fun v hv => by obtain ⟨⟨v1, v2, v3, v4, v5, v6⟩, v7, v8, v9⟩ := hv; go_simp; try with_reducible rfl) ?_
  try simp only [Act.put, List.setIfInBounds_toArray, List.set_cons_zero, List.set_cons_succ]
  refine restS_take (i := 29) S5.out rfl (by kernel_rfl) (by kernel_rfl) (by kernel_rfl) (by rfl) (fun v hv => by obtain ⟨⟨v1, v2, v3, v4, v5, v6⟩, v7, v8, v9⟩ := hv; go_simp; try with_reducible rfl) ?_
  try simp only [Act.put, List.setIfInBounds_toArray, List.set_cons_zero, List.set_cons_succ]
  refine restS_take (i := 30) S5.out rfl (by kernel_rfl) (by kernel_rfl) (by kernel_rfl) (by rfl) (fun v hv => by obtain ⟨⟨v1, v2, v3, v4, v5, v6⟩, v7, v8, v9⟩ := hv; go_simp; try with_reducible rfl) ?_
  try simp only [Act.put, List.setIfInBounds_toArray, List.set_cons_zero, List.set_cons_succ]
  refine restS_done (by kernel_rfl) ?_
  go_wp2_with fail
  go_ret
  exact ⟨st', M.num_up _ _ _ HNm1.out (by omega) (by omega), by simp, F'', F5, T5.out, C5.out⟩
end Go.Proofs.YtjklgmhaebjjaaaGreat.S12
namespace Go.Proofs.YtjklgmhaebjjaaaGreat.S12
open S11
open Go.RowKit
set_option linter.unusedVariables false
set_option linter.unusedSimpArgs false


set_option maxHeartbeats 4000000 in
set_option maxRecDepth 20000 in
theorem does_unitNo {M : Mod} {O Q : Ob M} {B P G R : Nat} (KP : ProgOk M B O) (KR : RefOk M B Q) (w : World) (F F2 : Nat → Prop) (st : M.σ) (i : Nat) (h : Two M O Q B P G R w F F2 st st) (hi : M.num st i) (hi2 : i ≤ 190) (n number : Int) (Ak : Option Addr) (nk ck : Nat) (key : List UInt8) (Ax1 : Option Addr) (nx cx : Nat) (X : List UInt8) (hk : Rd w B Ak key) (hkl : key.length = nk) (hkc : nk ≤ ck) (hk2 : nk ≤ 100) (hx : Rd w B Ax1 X) (hxl : X.length = nx) (hxc : nx ≤ cx) (hx2 : nx ≤ 1100) (hn1 : -9223372036854775808 ≤ number) (hn2 : number < 9223372036854775808) (hr : rightB nk number nx = false) :
    Calls Tryz.prog 8 #[.pointer (some ⟨P, 0, none⟩), .agg #[.int .i64 3, .int .i64 n, .int .i64 number, .slice Ak nk ck, .slice Ax1 nx cx]] w (Does M O Q B P G R w st) := by
  have hno : ¬ (nk = 64 ∧ 0 ≤ number ∧ 16 ≤ nx ∧ nx ≤ 1024 ∧ nx % 16 = 0) := of_decide_eq_false hr
  have HNo := Lib.hid hno
  have HR := Lib.hid hr
  clear hno hr
  have H0 := Lib.hid h
  have HI := Lib.hid hi
  have HBw := Lib.hid h.bw
  have HK := Lib.hid hk
  have HX := Lib.hid hx
  have HKl := Lib.hid hkl
  have HXl := Lib.hid hxl
  have AA := Lib.hid (h.act KP.toKept KR.toKept (n := n) (number := number) (Vk := .slice Ak nk ck) (Vx := .slice Ax1 nx cx) 3)
  have TA := Lib.hid (h.grow KP.toKept KR.toKept (alloc_below w (.cells #[.int .i64 3, .int .i64 n, .int .i64 number, .slice Ak nk ck, .slice Ax1 nx cx] 38)))
  have GA := Lib.hid (alloc_below w (.cells #[.int .i64 3, .int .i64 n, .int .i64 number, .slice Ak nk ck, .slice Ax1 nx cx] 38))
  clear h hi hk hx hkl hxl
  go_enter Tryz.func8, Tryz.ntmps8
  go_wp2_with fail
  obtain ⟨ba, hba⟩ : ∃ ba, ba = w.heap.size := ⟨_, rfl⟩
  rw [← hba] at AA ⊢
  generalize w.alloc _ = wa at TA GA AA ⊢
  have HBa := Lib.hid hba
  have KA := Lib.hid (HK.out.below (Below.mono GA.out HBw.out))
  have XA := Lib.hid (HX.out.below (Below.mono GA.out HBw.out))
  have CA := Lib.hid (show Below B w wa from Below.mono GA.out HBw.out)
  clear H0 HK HX GA hba
  try simp only [Act.put, List.setIfInBounds_toArray, List.set_cons_zero, List.set_cons_succ]
  refine restS_begin (Fx P G R ba n number (.slice Ak nk ck) (.slice Ax1 nx cx)) (by kernel_rfl) ?_
  have T0 := Lib.hid (TA.out.grow KP.toKept KR.toKept (show Grown wa wa.drew from (Below.refl _ wa).drew))
  have A0 := Lib.hid (AA.out.grow (show Grown wa wa.drew from (Below.refl _ wa).drew))
  have K0 := Lib.hid (show Rd wa.drew B Ak key from KA.out)
  have X0 := Lib.hid (show Rd wa.drew B Ax1 X from XA.out)
  have C0 := Lib.hid (show Below B w wa.drew from CA.out.drew)
  clear TA AA KA XA CA
  generalize wa.drew = w0 at T0 A0 K0 X0 C0 ⊢
  have S0 := Lib.hid (T0.out.fx A0.out)
  refine restS_take (i := 0) S0.out rfl (by kernel_rfl) (by kernel_rfl) (by kernel_rfl) (by rfl) (fun v hv => by obtain ⟨v1, v2, v3, v4, v5, v6⟩ := hv; go_simp; try with_reducible rfl) ?_
  try simp only [Act.put, List.setIfInBounds_toArray, List.set_cons_zero, List.set_cons_succ]
  refine restS_take (i := 1) S0.out rfl (by kernel_rfl) (by kernel_rfl) (by kernel_rfl) (by rfl) (fun v hv => by obtain ⟨v1, v2, v3, v4, v5, v6⟩ := hv; go_simp; try with_reducible rfl) ?_
  try simp only [Act.put, List.setIfInBounds_toArray, List.set_cons_zero, List.set_cons_succ]
  refine restS_take (i := 2) S0.out rfl (by kernel_rfl) (by kernel_rfl) (by kernel_rfl) (by rfl) (fun v hv => by obtain ⟨v1, v2, v3, v4, v5, v6⟩ := hv; go_simp; try with_reducible rfl) ?_
  try simp only [Act.put, List.setIfInBounds_toArray, List.set_cons_zero, List.set_cons_succ]
  refine restS_take (i := 3) S0.out rfl (by kernel_rfl) (by kernel_rfl) (by kernel_rfl) (by rfl) (fun v hv => by obtain ⟨v1, v2, v3, v4, v5, v6⟩ := hv; go_simp; try with_reducible rfl) ?_
  try simp only [Act.put, List.setIfInBounds_toArray, List.set_cons_zero, List.set_cons_succ]
  refine restS_take (i := 4) S0.out rfl (by kernel_rfl) (by kernel_rfl) (by kernel_rfl) (by rfl) (fun v hv => by obtain ⟨v1, v2, v3, v4, v5, v6⟩ := hv; go_simp; try with_reducible rfl) ?_
  try simp only [Act.put, List.setIfInBounds_toArray, List.set_cons_zero, List.set_cons_succ]
  refine restS_take (i := 5) S0.out rfl (by kernel_rfl) (by kernel_rfl) (by kernel_rfl) (by rfl) (fun v hv => by obtain ⟨v1, v2, v3, v4, v5, v6⟩ := hv; go_simp; try with_reducible rfl) ?_
  try simp only [Act.put, List.setIfInBounds_toArray, List.set_cons_zero, List.set_cons_succ]
  refine restS_take (i := 6) S0.out rfl (by kernel_rfl) (by kernel_rfl) (by kernel_rfl) (by rfl) (fun v hv => by obtain ⟨v1, v2, v3, v4, v5, v6⟩ := hv; go_simp; try with_reducible rfl) ?_
  try simp only [Act.put, List.setIfInBounds_toArray, List.set_cons_zero, List.set_cons_succ]
  refine restS_take (i := 7) S0.out rfl (by kernel_rfl) (by kernel_rfl) (by kernel_rfl) (by rfl) (fun v hv => by obtain ⟨v1, v2, v3, v4, v5, v6⟩ := hv; go_simp; try with_reducible rfl) ?_
  try simp only [Act.put, List.setIfInBounds_toArray, List.set_cons_zero, List.set_cons_succ]
  refine restS_take (i := 8) S0.out rfl (by kernel_rfl) (by kernel_rfl) (by kernel_rfl) (by rfl) (fun v hv => by obtain ⟨v1, v2, v3, v4, v5, v6⟩ := hv; go_simp; try with_reducible rfl) ?_
  try simp only [Act.put, List.setIfInBounds_toArray, List.set_cons_zero, List.set_cons_succ]
  refine restS_take (i := 9) S0.out rfl (by kernel_rfl) (by kernel_rfl) (by kernel_rfl) (by rfl) (fun v hv => by obtain ⟨v1, v2, v3, v4, v5, v6⟩ := hv; go_simp; try with_reducible rfl) ?_
  try simp only [Act.put, List.setIfInBounds_toArray, List.set_cons_zero, List.set_cons_succ]
  refine restS_lone (i := 10) rfl (by kernel_rfl) (by rfl) (fun K hK => ?_)
  go_simp
  refine (KP.unitNo w0 G F st Ak nk ck key number Ax1 nx cx X T0.out.p (T0.out.besP K0.out HKl.out hkc) (by omega) hn1 hn2 (T0.out.besP X0.out HXl.out hxc) (by omega) HNo.out).mono ?_
  rintro e w1 ⟨A3, c3, rfl, F', hO, hF', hC⟩
  have T1 := Lib.hid (T0.out.stepP KP.toKept KR.toKept hO hF' hC)
  have A1 := Lib.hid (A0.out.stepP hF' hC)
  have C1 := Lib.hid (Below.trans C0.out (ch_below hC T0.out.pB T0.out.bw))
  have K1 := Lib.hid (K0.out.below (ch_below hC T0.out.pB T0.out.bw))
  have X1 := Lib.hid (X0.out.below (ch_below hC T0.out.pB T0.out.bw))
  have S1 := Lib.hid (T1.out.fx A1.out)
  clear hO hF' hC
  refine hK.out _ _ S1.out ?_
  clear hK K T0 A0 C0 K0 X0 S0
  try simp only [Act.put, List.setIfInBounds_toArray, List.set_cons_zero, List.set_cons_succ]
  refine restS_take (i := 11) S1.out rfl (by kernel_rfl) (by kernel_rfl) (by kernel_rfl) (by rfl) (fun v hv => by obtain ⟨v1, v2, v3, v4, v5, v6⟩ := hv; go_simp; try with_reducible rfl) ?_
  try simp only [Act.put, List.setIfInBounds_toArray, List.set_cons_zero, List.set_cons_succ]
  refine restS_take (i := 12) S1.out rfl (by kernel_rfl) (by kernel_rfl) (by kernel_rfl) (by rfl) (fun v hv => by obtain ⟨v1, v2, v3, v4, v5, v6⟩ := hv; go_simp; try with_reducible rfl) ?_
  try simp only [Act.put, List.setIfInBounds_toArray, List.set_cons_zero, List.set_cons_succ]
  refine restS_take (i := 13) S1.out rfl (by kernel_rfl) (by kernel_rfl) (by kernel_rfl) (by rfl) (fun v hv => by obtain ⟨v1, v2, v3, v4, v5, v6⟩ := hv; go_simp; try with_reducible rfl) ?_
  try simp only [Act.put, List.setIfInBounds_toArray, List.set_cons_zero, List.set_cons_succ]
  refine restS_take (i := 14) S1.out rfl (by kernel_rfl) (by kernel_rfl) (by kernel_rfl) (by rfl) (fun v hv => by obtain ⟨v1, v2, v3, v4, v5, v6⟩ := hv; go_simp; try with_reducible rfl) ?_
  try simp only [Act.put, List.setIfInBounds_toArray, List.set_cons_zero, List.set_cons_succ]
  refine restS_take (i := 15) S1.out rfl (by kernel_rfl) (by kernel_rfl) (by kernel_rfl) (by rfl) (fun v hv => by obtain ⟨v1, v2, v3, v4, v5, v6⟩ := hv; go_simp; try with_reducible rfl) ?_
  try simp only [Act.put, List.setIfInBounds_toArray, List.set_cons_zero, List.set_cons_succ]
  refine restS_done (by kernel_rfl) ?_
  have hc2 := A1.out.c2
  have hc3 := A1.out.c3
  have hc4 := A1.out.c4
  go_wp2_with fail
  refine (refRight_any Ak nk ck number Ax1 nx cx w1 hk2 hx2).mono ?_
  rintro e w1' ⟨rfl, hw⟩
  subst hw
  rw [HR.out]
  clear hc2 hc3 hc4
  go_wp2_with fail
  try simp only [Act.put, List.setIfInBounds_toArray, List.set_cons_zero, List.set_cons_succ]
  refine restS_begin (Fx P G R ba n number (.slice Ak nk ck) (.slice Ax1 nx cx)) (by kernel_rfl) ?_
  have T2 := Lib.hid (T1.out.grow KP.toKept KR.toKept (show Grown w1' w1'.drew from (Below.refl _ w1').drew))
  have A2 := Lib.hid (A1.out.grow (show Grown w1' w1'.drew from (Below.refl _ w1').drew))
  have K2 := Lib.hid (show Rd w1'.drew B Ak key from K1.out)
  have X2 := Lib.hid (show Rd w1'.drew B Ax1 X from X1.out)
  have C2 := Lib.hid (show Below B w w1'.drew from C1.out.drew)
  clear T1 A1 K1 X1 C1
  generalize w1'.drew = w2 at T2 A2 K2 X2 C2 ⊢
  have S2 := Lib.hid (T2.out.fx A2.out)
  refine restS_take (i := 0) S2.out rfl (by kernel_rfl) (by kernel_rfl) (by kernel_rfl) (by rfl) (fun v hv => by obtain ⟨v1, v2, v3, v4, v5, v6⟩ := hv; go_simp; try with_reducible rfl) ?_
  try simp only [Act.put, List.setIfInBounds_toArray, List.set_cons_zero, List.set_cons_succ]
  refine restS_take (i := 1) S2.out rfl (by kernel_rfl) (by kernel_rfl) (by kernel_rfl) (by rfl) (fun v hv => by obtain ⟨v1, v2, v3, v4, v5, v6⟩ := hv; go_simp; try with_reducible rfl) ?_
  try simp only [Act.put, List.setIfInBounds_toArray, List.set_cons_zero, List.set_cons_succ]
  refine restS_take (i := 2) S2.out rfl (by kernel_rfl) (by kernel_rfl) (by kernel_rfl) (by rfl) (fun v hv => by obtain ⟨v1, v2, v3, v4, v5, v6⟩ := hv; go_simp; try with_reducible rfl) ?_
  try simp only [Act.put, List.setIfInBounds_toArray, List.set_cons_zero, List.set_cons_succ]
  refine restS_take (i := 3) S2.out rfl (by kernel_rfl) (by kernel_rfl) (by kernel_rfl) (by rfl) (fun v hv => by obtain ⟨v1, v2, v3, v4, v5, v6⟩ := hv; go_simp; try with_reducible rfl) ?_
  try simp only [Act.put, List.setIfInBounds_toArray, List.set_cons_zero, List.set_cons_succ]
  refine restS_take (i := 4) S2.out rfl (by kernel_rfl) (by kernel_rfl) (by kernel_rfl) (by rfl) (fun v hv => by obtain ⟨v1, v2, v3, v4, v5, v6⟩ := hv; go_simp; try with_reducible rfl) ?_
  try simp only [Act.put, List.setIfInBounds_toArray, List.set_cons_zero, List.set_cons_succ]
  refine restS_take (i := 5) S2.out rfl (by kernel_rfl) (by kernel_rfl) (by kernel_rfl) (by rfl) (fun v hv => by obtain ⟨v1, v2, v3, v4, v5, v6⟩ := hv; go_simp; try with_reducible rfl) ?_
  try simp only [Act.put, List.setIfInBounds_toArray, List.set_cons_zero, List.set_cons_succ]
  refine restS_take (i := 6) S2.out rfl (by kernel_rfl) (by kernel_rfl) (by kernel_rfl) (by rfl) (fun v hv => by obtain ⟨v1, v2, v3, v4, v5, v6⟩ := hv; go_simp; try with_reducible rfl) ?_
  try simp only [Act.put, List.setIfInBounds_toArray, List.set_cons_zero, List.set_cons_succ]
  refine restS_take (i := 7) S2.out rfl (by kernel_rfl) (by kernel_rfl) (by kernel_rfl) (by rfl) (fun v hv => by obtain ⟨v1, v2, v3, v4, v5, v6⟩ := hv; go_simp; try with_reducible rfl) ?_
  try simp only [Act.put, List.setIfInBounds_toArray, List.set_cons_zero, List.set_cons_succ]
  refine restS_take (i := 8) S2.out rfl (by kernel_rfl) (by kernel_rfl) (by kernel_rfl) (by rfl) (fun v hv => by obtain ⟨v1, v2, v3, v4, v5, v6⟩ := hv; go_simp; try with_reducible rfl) ?_
  try simp only [Act.put, List.setIfInBounds_toArray, List.set_cons_zero, List.set_cons_succ]
  refine restS_take (i := 9) S2.out rfl (by kernel_rfl) (by kernel_rfl) (by kernel_rfl) (by rfl) (fun v hv => by obtain ⟨v1, v2, v3, v4, v5, v6⟩ := hv; go_simp; try with_reducible rfl) ?_
  try simp only [Act.put, List.setIfInBounds_toArray, List.set_cons_zero, List.set_cons_succ]
  refine restS_lone (i := 10) rfl (by kernel_rfl) (by rfl) (fun K hK => ?_)
  go_simp
  refine (KP.ununitNo w2 G F' st Ak nk ck key number Ax1 nx cx X T2.out.p (T2.out.besP K2.out HKl.out hkc) (by omega) hn1 hn2 (T2.out.besP X2.out HXl.out hxc) (by omega) HNo.out).mono ?_
  clear S1
  rintro e w3 ⟨A4, n4, c4, rfl, F'', hO, hF', hC⟩
  have T3 := Lib.hid (T2.out.stepP KP.toKept KR.toKept hO hF' hC)
  have A3 := Lib.hid (A2.out.stepP hF' hC)
  have C3 := Lib.hid (Below.trans C2.out (ch_below hC T2.out.pB T2.out.bw))
  have K3 := Lib.hid (K2.out.below (ch_below hC T2.out.pB T2.out.bw))
  have X3 := Lib.hid (X2.out.below (ch_below hC T2.out.pB T2.out.bw))
  have S3 := Lib.hid (T3.out.fx A3.out)
  clear hO hF' hC
  refine hK.out _ _ S3.out ?_
  clear hK K T2 A2 C2 K2 X2 S2
  try simp only [Act.put, List.setIfInBounds_toArray, List.set_cons_zero, List.set_cons_succ]
  refine restS_take (i := 11) S3.out rfl (by kernel_rfl) (by kernel_rfl) (by kernel_rfl) (by rfl) (fun v hv => by obtain ⟨v1, v2, v3, v4, v5, v6⟩ := hv; go_simp; try with_reducible rfl) ?_
  try simp only [Act.put, List.setIfInBounds_toArray, List.set_cons_zero, List.set_cons_succ]
  refine restS_take (i := 12) S3.out rfl (by kernel_rfl) (by kernel_rfl) (by kernel_rfl) (by rfl) (fun v hv => by obtain ⟨v1, v2, v3, v4, v5, v6⟩ := hv; go_simp; try with_reducible rfl) ?_
  try simp only [Act.put, List.setIfInBounds_toArray, List.set_cons_zero, List.set_cons_succ]
  refine restS_take (i := 13) S3.out rfl (by kernel_rfl) (by kernel_rfl) (by kernel_rfl) (by rfl) (fun v hv => by obtain ⟨v1, v2, v3, v4, v5, v6⟩ := hv; go_simp; try with_reducible rfl) ?_
  try simp only [Act.put, List.setIfInBounds_toArray, List.set_cons_zero, List.set_cons_succ]
  refine restS_take (i := 14) S3.out rfl (by kernel_rfl) (by kernel_rfl) (by kernel_rfl) (by rfl) (fun v hv => by obtain ⟨v1, v2, v3, v4, v5, v6⟩ := hv; go_simp; try with_reducible rfl) ?_
  try simp only [Act.put, List.setIfInBounds_toArray, List.set_cons_zero, List.set_cons_succ]
  refine restS_take (i := 15) S3.out rfl (by kernel_rfl) (by kernel_rfl) (by kernel_rfl) (by rfl) (fun v hv => by obtain ⟨v1, v2, v3, v4, v5, v6⟩ := hv; go_simp; try with_reducible rfl) ?_
  try simp only [Act.put, List.setIfInBounds_toArray, List.set_cons_zero, List.set_cons_succ]
  refine restS_done (by kernel_rfl) ?_
  go_wp2_with fail
  go_ret
  exact ⟨by simp, F'', F2, T3.out, C3.out⟩
end Go.Proofs.YtjklgmhaebjjaaaGreat.S12
