/-
  Acts of the law: blocks.
-/
import Derived.Test.YtjklgmhaebjjaaaGreatMgOidealMain37
namespace Go.Proofs.YtjklgmhaebjjaaaGreat.S12
open S11
open Go.RowKit
set_option linter.unusedVariables false
set_option linter.unusedSimpArgs false

set_option maxHeartbeats 4000000 in
set_option maxRecDepth 20000 in
theorem does_blockNo {M : Mod} {O Q : Ob M} {B P G R : Nat} (KP : ProgOk M B O) (KR : RefOk M B Q) (w : World) (F F2 : Nat → Prop) (st : M.σ) (i : Nat) (h : Two M O Q B P G R w F F2 st st) (hi : M.num st i) (hi2 : i ≤ 190) (n number : Int) (Ak : Option Addr) (nk ck : Nat) (key : List UInt8) (Ax1 : Option Addr) (nx cx : Nat) (X : List UInt8) (hk : Rd w B Ak key) (hkl : key.length = nk) (hkc : nk ≤ ck) (hk2 : nk ≤ 100) (hx : Rd w B Ax1 X) (hxl : X.length = nx) (hxc : nx ≤ cx) (hx2 : nx ≤ 1100) (hn32 : nk ≠ 32) :
    Calls Tryz.prog 8 #[.pointer (some ⟨P, 0, none⟩), .agg #[.int .i64 2, .int .i64 n, .int .i64 number, .slice Ak nk ck, .slice Ax1 nx cx]] w (Does M O Q B P G R w st) := by
  have b32 : ((nk : Int) != 32) = true := by rw [bne_iff_ne]; omega
  have HN32 := Lib.hid hn32
  clear hn32
  have H0 := Lib.hid h
  have HI := Lib.hid hi
  have HBw := Lib.hid h.bw
  have HK := Lib.hid hk
  have HX := Lib.hid hx
  have HKl := Lib.hid hkl
  have HXl := Lib.hid hxl
  have AA := Lib.hid (h.act KP.toKept KR.toKept (n := n) (number := number) (Vk := .slice Ak nk ck) (Vx := .slice Ax1 nx cx) 2)
  have TA := Lib.hid (h.grow KP.toKept KR.toKept (alloc_below w (.cells #[.int .i64 2, .int .i64 n, .int .i64 number, .slice Ak nk ck, .slice Ax1 nx cx] 38)))
  have GA := Lib.hid (alloc_below w (.cells #[.int .i64 2, .int .i64 n, .int .i64 number, .slice Ak nk ck, .slice Ax1 nx cx] 38))
  clear h hi hk hx hkl hxl
  go_enter Tryz.func8, Tryz.ntmps8
  go_wp2_with fail
  obtain ⟨ba, hba⟩ : ∃ ba, ba = w.heap.size := ⟨_, rfl⟩
  rw [← hba] at AA ⊢
  generalize w.alloc _ = wa at TA GA AA ⊢
  have HBa := Lib.hid hba
  have KA := Lib.hid (HK.out.below (Below.mono GA.out HBw.out))
  have XA := Lib.hid (HX.out.below (Below.mono GA.out HBw.out))
  have CA := Lib.hid (show Below B w wa from Below.mono GA.out HBw.out)
  clear H0 HK HX GA hba
  try simp only [Act.put, List.setIfInBounds_toArray, List.set_cons_zero, List.set_cons_succ]
  refine restS_begin (Fx P G R ba n number (.slice Ak nk ck) (.slice Ax1 nx cx)) (by kernel_rfl) ?_
  have T0 := Lib.hid (TA.out.grow KP.toKept KR.toKept (show Grown wa wa.drew from (Below.refl _ wa).drew))
  have A0 := Lib.hid (AA.out.grow (show Grown wa wa.drew from (Below.refl _ wa).drew))
  have K0 := Lib.hid (show Rd wa.drew B Ak key from KA.out)
  have X0 := Lib.hid (show Rd wa.drew B Ax1 X from XA.out)
  have C0 := Lib.hid (show Below B w wa.drew from CA.out.drew)
  clear TA AA KA XA CA
  generalize wa.drew = w0 at T0 A0 K0 X0 C0 ⊢
  have S0 := Lib.hid (T0.out.fx A0.out)
  refine restS_take (i := 0) S0.out rfl (by kernel_rfl) (by kernel_rfl) (by kernel_rfl) (by rfl) (fun v hv => by obtain ⟨v1, v2, v3, v4, v5, v6⟩ := hv; go_simp; try with_reducible rfl) ?_
  try simp only [Act.put, List.setIfInBounds_toArray, List.set_cons_zero, List.set_cons_succ]
  refine restS_take (i := 1) S0.out rfl (by kernel_rfl) (by kernel_rfl) (by kernel_rfl) (by rfl) (fun v hv => by obtain ⟨v1, v2, v3, v4, v5, v6⟩ := hv; go_simp; try with_reducible rfl) ?_
  try simp only [Act.put, List.setIfInBounds_toArray, List.set_cons_zero, List.set_cons_succ]
  refine restS_take (i := 2) S0.out rfl (by kernel_rfl) (by kernel_rfl) (by kernel_rfl) (by rfl) (fun v hv => by obtain ⟨v1, v2, v3, v4, v5, v6⟩ := hv; go_simp; try with_reducible rfl) ?_
  try simp only [Act.put, List.setIfInBounds_toArray, List.set_cons_zero, List.set_cons_succ]
  refine restS_take (i := 3) S0.out rfl (by kernel_rfl) (by kernel_rfl) (by kernel_rfl) (by rfl) (fun v hv => by obtain ⟨v1, v2, v3, v4, v5, v6⟩ := hv; go_simp; try with_reducible rfl) ?_
  try simp only [Act.put, List.setIfInBounds_toArray, List.set_cons_zero, List.set_cons_succ]
  refine restS_take (i := 4) S0.out rfl (by kernel_rfl) (by kernel_rfl) (by kernel_rfl) (by rfl) (fun v hv => by obtain ⟨v1, v2, v3, v4, v5, v6⟩ := hv; go_simp; try with_reducible rfl) ?_
  try simp only [Act.put, List.setIfInBounds_toArray, List.set_cons_zero, List.set_cons_succ]
  refine restS_take (i := 5) S0.out rfl (by kernel_rfl) (by kernel_rfl) (by kernel_rfl) (by rfl) (fun v hv => by obtain ⟨v1, v2, v3, v4, v5, v6⟩ := hv; go_simp; try with_reducible rfl) ?_
  try simp only [Act.put, List.setIfInBounds_toArray, List.set_cons_zero, List.set_cons_succ]
  refine restS_lone (i := 6) rfl (by kernel_rfl) (by rfl) (fun K hK => ?_)
  go_simp
  refine (KP.blockNo w0 G F st Ak nk ck key T0.out.p (T0.out.besP K0.out HKl.out hkc) HN32.out (by omega)).mono ?_
  rintro e w1 ⟨rfl, F', hO, hF', hC⟩
  have T1 := Lib.hid (T0.out.stepP KP.toKept KR.toKept hO hF' hC)
  have A1 := Lib.hid (A0.out.stepP hF' hC)
  have C1 := Lib.hid (Below.trans C0.out (ch_below hC T0.out.pB T0.out.bw))
  have K1 := Lib.hid (K0.out.below (ch_below hC T0.out.pB T0.out.bw))
  have X1 := Lib.hid (X0.out.below (ch_below hC T0.out.pB T0.out.bw))
  have S1 := Lib.hid (T1.out.fx A1.out)
  clear hO hF' hC
  refine hK.out _ _ S1.out ?_
  clear hK K T0 A0 C0 K0 X0 S0
  try simp only [Act.put, List.setIfInBounds_toArray, List.set_cons_zero, List.set_cons_succ]
  refine restS_take (i := 7) S1.out rfl (by kernel_rfl) (by kernel_rfl) (by kernel_rfl) (by rfl) (fun v hv => by obtain ⟨v1, v2, v3, v4, v5, v6⟩ := hv; go_simp; try with_reducible rfl) ?_
  try simp only [Act.put, List.setIfInBounds_toArray, List.set_cons_zero, List.set_cons_succ]
  refine restS_take (i := 8) S1.out rfl (by kernel_rfl) (by kernel_rfl) (by kernel_rfl) (by rfl) (fun v hv => by obtain ⟨v1, v2, v3, v4, v5, v6⟩ := hv; go_simp; try with_reducible rfl) ?_
  try simp only [Act.put, List.setIfInBounds_toArray, List.set_cons_zero, List.set_cons_succ]
  refine restS_take (i := 9) S1.out rfl (by kernel_rfl) (by kernel_rfl) (by kernel_rfl) (by rfl) (fun v hv => by obtain ⟨v1, v2, v3, v4, v5, v6⟩ := hv; go_simp; try with_reducible rfl) ?_
  try simp only [Act.put, List.setIfInBounds_toArray, List.set_cons_zero, List.set_cons_succ]
  refine restS_take (i := 10) S1.out rfl (by kernel_rfl) (by kernel_rfl) (by kernel_rfl) (by rfl) (fun v hv => by obtain ⟨v1, v2, v3, v4, v5, v6⟩ := hv; go_simp; try with_reducible rfl) ?_
  try simp only [Act.put, List.setIfInBounds_toArray, List.set_cons_zero, List.set_cons_succ]
  refine restS_take (i := 11) S1.out rfl (by kernel_rfl) (by kernel_rfl) (by kernel_rfl) (by rfl) (fun v hv => by obtain ⟨v1, v2, v3, v4, v5, v6⟩ := hv; go_simp; try with_reducible rfl) ?_
  try simp only [Act.put, List.setIfInBounds_toArray, List.set_cons_zero, List.set_cons_succ]
  refine restS_done (by kernel_rfl) ?_
  have hc3 := A1.out.c3
  go_wp2_with fail
  go_ret
  exact ⟨by simp, F', F2, T1.out, C1.out⟩

set_option maxHeartbeats 16000000 in
set_option maxRecDepth 20000 in
theorem does_block {M : Mod} {O Q : Ob M} {B P G R : Nat} (KP : ProgOk M B O) (KR : RefOk M B Q) (w : World) (F F2 : Nat → Prop) (st : M.σ) (i : Nat) (h : Two M O Q B P G R w F F2 st st) (hi : M.num st i) (hi2 : i ≤ 190) (n number : Int) (Ak : Option Addr) (nk ck : Nat) (key : List UInt8) (Ax1 : Option Addr) (nx cx : Nat) (X : List UInt8) (hk : Rd w B Ak key) (hkl : key.length = nk) (hkc : nk ≤ ck) (hk2 : nk ≤ 100) (hx : Rd w B Ax1 X) (hxl : X.length = nx) (hxc : nx ≤ cx) (hx2 : nx ≤ 1100) (hn32 : nk = 32) :
    Calls Tryz.prog 8 #[.pointer (some ⟨P, 0, none⟩), .agg #[.int .i64 2, .int .i64 n, .int .i64 number, .slice Ak nk ck, .slice Ax1 nx cx]] w fun e w' => ∃ st', M.num st' (i + 5) ∧ Does M O Q B P G R w st' e w' := by
  have b32 : ((nk : Int) != 32) = false := by subst hn32; rfl
  have HN32 := Lib.hid hn32
  obtain ⟨Z16, hZ16⟩ : ∃ Z, Z = (bvs z16b).toArray := ⟨_, rfl⟩
  have HZ16 := Lib.hid hZ16
  have hv16 : ∀ V : World, (zeroValue 62).run Tryz.prog V = .ok (.agg Z16) V := fun V => by rw [hZ16]; exact zv16 V
  have hz16s : Z16.size = 16 := by rw [hZ16]; rfl
  clear hn32 hZ16
  have H0 := Lib.hid h
  have HI := Lib.hid hi
  have HBw := Lib.hid h.bw
  have HK := Lib.hid hk
  have HX := Lib.hid hx
  have HKl := Lib.hid hkl
  have HXl := Lib.hid hxl
  have AA := Lib.hid (h.act KP.toKept KR.toKept (n := n) (number := number) (Vk := .slice Ak nk ck) (Vx := .slice Ax1 nx cx) 2)
  have TA := Lib.hid (h.grow KP.toKept KR.toKept (alloc_below w (.cells #[.int .i64 2, .int .i64 n, .int .i64 number, .slice Ak nk ck, .slice Ax1 nx cx] 38)))
  have GA := Lib.hid (alloc_below w (.cells #[.int .i64 2, .int .i64 n, .int .i64 number, .slice Ak nk ck, .slice Ax1 nx cx] 38))
  clear h hi hk hx hkl hxl
  go_enter Tryz.func8, Tryz.ntmps8
  go_wp2_with fail
  obtain ⟨ba, hba⟩ : ∃ ba, ba = w.heap.size := ⟨_, rfl⟩
  rw [← hba] at AA ⊢
  generalize w.alloc _ = wa at TA GA AA ⊢
  have HBa := Lib.hid hba
  have KA := Lib.hid (HK.out.below (Below.mono GA.out HBw.out))
  have XA := Lib.hid (HX.out.below (Below.mono GA.out HBw.out))
  have CA := Lib.hid (show Below B w wa from Below.mono GA.out HBw.out)
  clear H0 HK HX GA hba
  try simp only [Act.put, List.setIfInBounds_toArray, List.set_cons_zero, List.set_cons_succ]
  refine restS_begin (Fx P G R ba n number (.slice Ak nk ck) (.slice Ax1 nx cx)) (by kernel_rfl) ?_
  have T0 := Lib.hid (TA.out.grow KP.toKept KR.toKept (show Grown wa wa.drew from (Below.refl _ wa).drew))
  have A0 := Lib.hid (AA.out.grow (show Grown wa wa.drew from (Below.refl _ wa).drew))
  have K0 := Lib.hid (show Rd wa.drew B Ak key from KA.out)
  have X0 := Lib.hid (show Rd wa.drew B Ax1 X from XA.out)
  have C0 := Lib.hid (show Below B w wa.drew from CA.out.drew)
  clear TA AA KA XA CA
  generalize wa.drew = w0 at T0 A0 K0 X0 C0 ⊢
  have S0 := Lib.hid (T0.out.fx A0.out)
  refine restS_take (i := 0) S0.out rfl (by kernel_rfl) (by kernel_rfl) (by kernel_rfl) (by rfl) (fun v hv => by obtain ⟨v1, v2, v3, v4, v5, v6⟩ := hv; go_simp; try with_reducible rfl) ?_
  try simp only [Act.put, List.setIfInBounds_toArray, List.set_cons_zero, List.set_cons_succ]
  refine restS_take (i := 1) S0.out rfl (by kernel_rfl) (by kernel_rfl) (by kernel_rfl) (by rfl) (fun v hv => by obtain ⟨v1, v2, v3, v4, v5, v6⟩ := hv; go_simp; try with_reducible rfl) ?_
  try simp only [Act.put, List.setIfInBounds_toArray, List.set_cons_zero, List.set_cons_succ]
  refine restS_take (i := 2) S0.out rfl (by kernel_rfl) (by kernel_rfl) (by kernel_rfl) (by rfl) (fun v hv => by obtain ⟨v1, v2, v3, v4, v5, v6⟩ := hv; go_simp; try with_reducible rfl) ?_
  try simp only [Act.put, List.setIfInBounds_toArray, List.set_cons_zero, List.set_cons_succ]
  refine restS_take (i := 3) S0.out rfl (by kernel_rfl) (by kernel_rfl) (by kernel_rfl) (by rfl) (fun v hv => by obtain ⟨v1, v2, v3, v4, v5, v6⟩ := hv; go_simp; try with_reducible rfl) ?_
  try simp only [Act.put, List.setIfInBounds_toArray, List.set_cons_zero, List.set_cons_succ]
  refine restS_take (i := 4) S0.out rfl (by kernel_rfl) (by kernel_rfl) (by kernel_rfl) (by rfl) (fun v hv => by obtain ⟨v1, v2, v3, v4, v5, v6⟩ := hv; go_simp; try with_reducible rfl) ?_
  try simp only [Act.put, List.setIfInBounds_toArray, List.set_cons_zero, List.set_cons_succ]
  refine restS_take (i := 5) S0.out rfl (by kernel_rfl) (by kernel_rfl) (by kernel_rfl) (by rfl) (fun v hv => by obtain ⟨v1, v2, v3, v4, v5, v6⟩ := hv; go_simp; try with_reducible rfl) ?_
  try simp only [Act.put, List.setIfInBounds_toArray, List.set_cons_zero, List.set_cons_succ]
  refine restS_lone (i := 6) rfl (by kernel_rfl) (by rfl) (fun K hK => ?_)
  go_simp
  refine (KP.block w0 G F st i Ak nk ck key T0.out.p HI.out (by omega) (T0.out.besP K0.out HKl.out hkc) HN32.out).mono ?_
  rintro e w1 ⟨T, v, fe, fd, re, rd, FB, rfl, hif, ⟨F', hO, hF', hC, hFF⟩, hFB, hcall⟩
  have HCall := Lib.hid hcall
  have B1 := Lib.hid (show Fb FB w1 B P ba w1 F' F2 from ⟨fun k hk => ⟨⟨(hFB k hk).2, hFF k hk, fun hf => by have h1 := KR.foot w0 R F2 st T0.out.r k hf; have h2 := (hFB k hk).1; omega, Nat.le_trans T0.out.bw (hFB k hk).1⟩, fun e => by have h1 := T0.out.lt; have h2 := (hFB k hk).1; omega, fun e => by have h1 := A0.out.loc.1; have h2 := (hFB k hk).1; omega, (hFB k hk).2⟩, fun _ _ => rfl, Nat.le_refl _⟩)
  have HIf := Lib.hid hif
  have T1 := Lib.hid (T0.out.stepP KP.toKept KR.toKept hO hF' hC)
  have A1 := Lib.hid (A0.out.stepP hF' hC)
  have C1 := Lib.hid (Below.trans C0.out (ch_below hC T0.out.pB T0.out.bw))
  have K1 := Lib.hid (K0.out.below (ch_below hC T0.out.pB T0.out.bw))
  have X1 := Lib.hid (X0.out.below (ch_below hC T0.out.pB T0.out.bw))
  have S1 := Lib.hid (T1.out.fx A1.out)
  clear hO hF' hC
  clear hif hFF hFB hcall
  refine hK.out _ _ S1.out ?_
  clear hK K T0 A0 C0 K0 X0 S0
  try simp only [Act.put, List.setIfInBounds_toArray, List.set_cons_zero, List.set_cons_succ]
  refine restS_take (i := 7) S1.out rfl (by kernel_rfl) (by kernel_rfl) (by kernel_rfl) (by rfl) (fun v hv => by obtain ⟨v1, v2, v3, v4, v5, v6⟩ := hv; go_simp; try with_reducible rfl) ?_
  try simp only [Act.put, List.setIfInBounds_toArray, List.set_cons_zero, List.set_cons_succ]
  refine restS_take (i := 8) S1.out rfl (by kernel_rfl) (by kernel_rfl) (by kernel_rfl) (by rfl) (fun v hv => by obtain ⟨v1, v2, v3, v4, v5, v6⟩ := hv; go_simp; try with_reducible rfl) ?_
  try simp only [Act.put, List.setIfInBounds_toArray, List.set_cons_zero, List.set_cons_succ]
  refine restS_take (i := 9) S1.out rfl (by kernel_rfl) (by kernel_rfl) (by kernel_rfl) (by rfl) (fun v hv => by obtain ⟨v1, v2, v3, v4, v5, v6⟩ := hv; go_simp; try with_reducible rfl) ?_
  try simp only [Act.put, List.setIfInBounds_toArray, List.set_cons_zero, List.set_cons_succ]
  refine restS_take (i := 10) S1.out rfl (by kernel_rfl) (by kernel_rfl) (by kernel_rfl) (by rfl) (fun v hv => by obtain ⟨v1, v2, v3, v4, v5, v6⟩ := hv; go_simp; try with_reducible rfl) ?_
  try simp only [Act.put, List.setIfInBounds_toArray, List.set_cons_zero, List.set_cons_succ]
  refine restS_take (i := 11) S1.out rfl (by kernel_rfl) (by kernel_rfl) (by kernel_rfl) (by rfl) (fun v hv => by obtain ⟨v1, v2, v3, v4, v5, v6⟩ := hv; go_simp; try with_reducible rfl) ?_
  try simp only [Act.put, List.setIfInBounds_toArray, List.set_cons_zero, List.set_cons_succ]
  refine restS_done (by kernel_rfl) ?_
  have hc3 := A1.out.c3
  go_wp2_with fail
  clear hc3 b32
  rw [HZ16.out]
  have GG := Lib.hid (alloc_below w1 (.cells (bvs z16b).toArray 62))
  have T2 := Lib.hid (T1.out.grow KP.toKept KR.toKept GG.out)
  have A2 := Lib.hid (A1.out.grow GG.out)
  have K2 := Lib.hid (K1.out.below (Below.mono GG.out T1.out.bw))
  have X2 := Lib.hid (X1.out.below (Below.mono GG.out T1.out.bw))
  have C2 := Lib.hid (Below.trans C1.out (Below.mono GG.out T1.out.bw))
  have S2 := Lib.hid (T2.out.fx A2.out)
  have B2 := Lib.hid (B1.out.grow GG.out)
  have L2 := Lib.hid (show Loc (w1.alloc (.cells (bvs z16b).toArray 62)) B F' F2 w1.heap.size ∧ w1.heap.size ≠ P ∧ ba ≠ w1.heap.size from ⟨(T1.out.locNew KP.toKept KR.toKept _).1, (T1.out.locNew KP.toKept KR.toKept (.cells (bvs z16b).toArray 62)).2, fun e => by have := A1.out.loc.1; omega⟩)
  have D2 := Lib.hid (Ba.new w1 62 z16b)
  have Z2 := Lib.hid (show (w1.alloc (.cells (bvs z16b).toArray 62)).heap.size = w1.heap.size + 1 by simp)
  obtain ⟨gp, hgp⟩ : ∃ g, g = w1.heap.size := ⟨_, rfl⟩
  have Hgp := Lib.hid (show w1.heap.size ≤ gp by rw [hgp]; exact Nat.le_refl _)
  rw [← hgp] at L2 D2 Z2 ⊢
  clear hgp GG T1 A1 K1 X1 C1 S1 B1
  generalize w1.alloc _ = w2 at T2 A2 K2 X2 C2 S2 B2 L2 D2 Z2 ⊢
  have hsl := fun V : World => cut16 V gp
  try simp only [Act.put, List.setIfInBounds_toArray, List.set_cons_zero, List.set_cons_succ]
  refine restS_begin (Fx P G R ba n number (.slice Ak nk ck) (.slice Ax1 nx cx)) (by kernel_rfl) ?_
  have GG := Lib.hid (show Grown w2 w2.drew from (Below.refl _ w2).drew)
  have T3 := Lib.hid (T2.out.grow KP.toKept KR.toKept GG.out)
  have A3 := Lib.hid (A2.out.grow GG.out)
  have K3 := Lib.hid (K2.out.below (Below.mono GG.out T2.out.bw))
  have X3 := Lib.hid (X2.out.below (Below.mono GG.out T2.out.bw))
  have C3 := Lib.hid (Below.trans C2.out (Below.mono GG.out T2.out.bw))
  have S3 := Lib.hid (T3.out.fx A3.out)
  have B3 := Lib.hid (B2.out.grow GG.out)
  have L3 := Lib.hid (show Loc w2.drew B F' F2 gp ∧ gp ≠ P ∧ ba ≠ gp from L2.out)
  have D3 := Lib.hid (show Ba w2.drew gp 62 z16b from D2.out)
  have Z3 := Lib.hid (show w2.drew.heap.size = gp + 1 from Z2.out)
  clear GG T2 A2 K2 X2 C2 S2 B2 L2 D2 Z2
  generalize w2.drew = w3 at T3 A3 K3 X3 C3 S3 B3 L3 D3 Z3 ⊢
  refine restS_take (i := 0) S3.out rfl (by kernel_rfl) (by kernel_rfl) (by kernel_rfl) (by rfl) (fun v hv => by obtain ⟨v1, v2, v3, v4, v5, v6⟩ := hv; go_simp; try with_reducible rfl) ?_
  try simp only [Act.put, List.setIfInBounds_toArray, List.set_cons_zero, List.set_cons_succ]
  refine restS_take (i := 1) S3.out rfl (by kernel_rfl) (by kernel_rfl) (by kernel_rfl) (by rfl) (fun v hv => by obtain ⟨v1, v2, v3, v4, v5, v6⟩ := hv; go_simp; try with_reducible rfl) ?_
  try simp only [Act.put, List.setIfInBounds_toArray, List.set_cons_zero, List.set_cons_succ]
  refine restS_take (i := 2) S3.out rfl (by kernel_rfl) (by kernel_rfl) (by kernel_rfl) (by rfl) (fun v hv => by obtain ⟨v1, v2, v3, v4, v5, v6⟩ := hv; go_simp; try with_reducible rfl) ?_
  try simp only [Act.put, List.setIfInBounds_toArray, List.set_cons_zero, List.set_cons_succ]
  refine restS_lone (i := 3) rfl (by kernel_rfl) (by rfl) (fun K hK => ?_)
  have hxr : Rd w3 w3.heap.size Ax1 (X.take 16) := (X3.out.more T3.out.bw).take 16
  refine wp_cp rfl (.tmp 157) (.tmp 159) 22 22 rfl 5 Tryz.underlying22 size5b (some ⟨gp, 0, none⟩) Ax1 16 16 nx cx rfl rfl gp 0 (bvs z16b) 62 D3.out (bvs (X.take 16)) (by rw [bvs_length, List.length_take, HXl.out, Nat.min_comm]) (fun hp => ⟨rfl, rd_src hxr hp⟩) (by rw [bvs_length, bvs_length, List.length_take]; show 0 + _ ≤ 16; omega) (bvs_one _) gp w3 (Below.refl _ _) (Nat.le_refl _) ?_
  intro w4 hg4 hb4
  rw [b16_splice] at hg4
  obtain ⟨Pb, hPb⟩ : ∃ Pb, Pb = b16 X := ⟨_, rfl⟩
  rw [← hPb] at hg4
  have HPl := Lib.hid (show Pb.length = 16 by rw [hPb]; exact b16_len X)
  have T4 := Lib.hid (T3.out.last KP.toKept KR.toKept Z3.out L3.out.1 L3.out.2.1 hb4)
  have hba : ba < gp := by have h1 := A3.out.loc.1; have h2 := L3.out.2.2; have h3 := Z3.out; omega
  have A4 := Lib.hid (A3.out.same (F' := F') (F2' := F2) (hb4.block ba hba) (A3.out.loc.grow hb4.size))
  have hBg : B ≤ gp := L3.out.1.2.2.2
  have K4 := Lib.hid (K3.out.below (Below.mono hb4 hBg))
  have X4 := Lib.hid (X3.out.below (Below.mono hb4 hBg))
  have C4 := Lib.hid (Below.trans C3.out (Below.mono hb4 hBg))
  have B4 := Lib.hid (B3.out.last Hgp.out hb4)
  have L4 := Lib.hid (show Loc w4 B F' F2 gp ∧ gp ≠ P ∧ ba ≠ gp from ⟨L3.out.1.grow hb4.size, L3.out.2⟩)
  have D4 := Lib.hid (show Ba w4 gp 62 Pb from hg4.out)
  have S4 := Lib.hid (T4.out.fx A4.out)
  clear hg4 hb4 hPb hba hBg hxr T3 A3 K3 X3 C3 S3 B3 L3 D3 Z3
  refine hK.out _ _ S4.out ?_
  clear hK K hsl
  try simp only [Act.put, List.setIfInBounds_toArray, List.set_cons_zero, List.set_cons_succ]
  refine restS_done (by kernel_rfl) ?_
  have hne := HIf.out.ne
  have hme := HIf.out.me
  have hce := HIf.out.ce
  go_wp2_with (first
    | (refine wpList_load_ba rfl u16a rfl i16a (.tmp 12) rfl rfl D4.out HPl.out ?_))
  refine ((HCall.out w4 F' st i T4.out.p HI.out (by omega) B4.out.same B4.out.size (fun k hk => (B4.out.loc k hk).1.2.1)).1 Pb HPl.out).mono ?_
  clear hne hme hce
  obtain ⟨Y, hY⟩ : ∃ Y, Y = (M.enc st key Pb).1 := ⟨_, rfl⟩
  obtain ⟨st', hst'⟩ : ∃ s, s = (M.enc st key Pb).2 := ⟨_, rfl⟩
  rw [← hY, ← hst']
  have HY := Lib.hid hY
  have HS := Lib.hid hst'
  have HYl := Lib.hid (show Y.length = 16 by rw [hY]; exact M.len_enc st i _ _ HI.out HPl.out)
  have HNm1 := Lib.hid (show M.num st' (i + 1) by rw [hst']; exact M.num_enc st i _ _ HI.out (by omega))
  have HDe := Lib.hid (show M.dec st' key Y = (Pb, st') by rw [hst', hY]; exact M.dec_enc st i _ _ HI.out HPl.out)
  clear hY hst'
  rintro e w5 ⟨rfl, F5, hO, hF', hC⟩
  have T5 := Lib.hid (T4.out.stepP KP.toKept KR.toKept hO hF' hC)
  have A5 := Lib.hid (A4.out.stepP hF' hC)
  have C5 := Lib.hid (Below.trans C4.out (ch_below hC T4.out.pB T4.out.bw))
  have K5 := Lib.hid (K4.out.below (ch_below hC T4.out.pB T4.out.bw))
  have X5 := Lib.hid (X4.out.below (ch_below hC T4.out.pB T4.out.bw))
  have S5 := Lib.hid (T5.out.fx A5.out)
  have B5 := Lib.hid (B4.out.stepP hF' hC)
  have L5 := Lib.hid (show Loc w5 B F5 F2 gp ∧ gp ≠ P ∧ ba ≠ gp from ⟨L4.out.1.stepP hF' hC.size, L4.out.2⟩)
  have D5 := Lib.hid (D4.out.ch hC L4.out.1.2.1)
  clear hO hF' hC
  clear T4 A4 K4 X4 C4 S4 B4 L4 D4
  have GG := Lib.hid (alloc_below w5 (.cells (bvs z16b).toArray 62))
  have T6 := Lib.hid (T5.out.grow KP.toKept KR.toKept GG.out)
  have A6 := Lib.hid (A5.out.grow GG.out)
  have K6 := Lib.hid (K5.out.below (Below.mono GG.out T5.out.bw))
  have X6 := Lib.hid (X5.out.below (Below.mono GG.out T5.out.bw))
  have C6 := Lib.hid (Below.trans C5.out (Below.mono GG.out T5.out.bw))
  have S6 := Lib.hid (T6.out.fx A6.out)
  have B6 := Lib.hid (B5.out.grow GG.out)
  have L6 := Lib.hid (show Loc (w5.alloc (.cells (bvs z16b).toArray 62)) B F5 F2 gp ∧ gp ≠ P ∧ ba ≠ gp from ⟨L5.out.1.grow GG.out.size, L5.out.2⟩)
  have D6 := Lib.hid (D5.out.grow GG.out)
  have M6 := Lib.hid (show Loc (w5.alloc (.cells (bvs z16b).toArray 62)) B F5 F2 w5.heap.size ∧ w5.heap.size ≠ P ∧ ba ≠ w5.heap.size ∧ gp ≠ w5.heap.size from ⟨(T5.out.locNew KP.toKept KR.toKept _).1, (T5.out.locNew KP.toKept KR.toKept (.cells (bvs z16b).toArray 62)).2, fun e => by have := A5.out.loc.1; omega, fun e => by have := L5.out.1.1; omega⟩)
  have N6 := Lib.hid (Ba.new w5 62 z16b)
  have H56 := Lib.hid (show w1.heap.size ≤ w5.heap.size from B5.out.size)
  clear GG T5 A5 K5 X5 C5 S5 B5 L5 D5
  obtain ⟨gx, hgx⟩ : ∃ g, g = w5.heap.size := ⟨_, rfl⟩
  have Hgx := Lib.hid hgx
  rw [← hgx] at M6 N6 H56
  clear hgx
  go_wp2_with (first
    | (rw [HZ16.out, ← Hgx.out]
       refine wpList_store_ba rfl i16a (.tmp 13) (.tmp 163) rfl rfl (M := Y) rfl (L := z16b) N6.out rfl HYl.out ?_
       have T7 := Lib.hid (T6.out.row KP.toKept KR.toKept M6.out.1 M6.out.2.1 (bvs Y).toArray)
       have A7 := Lib.hid (A6.out.row M6.out.2.2.1 (bvs Y).toArray)
       have C7 := Lib.hid (below_setRow C6.out M6.out.1.2.2.2 (bvs Y).toArray)
       have K7 := Lib.hid (K6.out.below (below_setRow (Below.refl B _) M6.out.1.2.2.2 (bvs Y).toArray))
       have X7 := Lib.hid (X6.out.below (below_setRow (Below.refl B _) M6.out.1.2.2.2 (bvs Y).toArray))
       have B7 := Lib.hid (B6.out.row H56.out (bvs Y).toArray)
       have L7 := Lib.hid (show Loc ((w5.alloc (.cells (bvs z16b).toArray 62)).setRow gx (bvs Y).toArray) B F5 F2 gp from L6.out.1.grow (by simp [World.setRow]))
       have D7 := Lib.hid (show Ba ((w5.alloc (.cells (bvs z16b).toArray 62)).setRow gx (bvs Y).toArray) gp 62 Pb from (setRow_other M6.out.2.2.2).trans D6.out)
       have M7 := Lib.hid (show Loc ((w5.alloc (.cells (bvs z16b).toArray 62)).setRow gx (bvs Y).toArray) B F5 F2 gx from M6.out.1.grow (by simp [World.setRow]))
       have N7 := Lib.hid (N6.out.row Y)
       clear T6 A6 K6 X6 C6 S6 B6 L6 D6 M6 N6 H56
       generalize (w5.alloc _).setRow _ _ = w7 at T7 A7 K7 X7 C7 B7 L7 D7 M7 N7 ⊢))
  clear hv16 hz16s Hgx
  obtain ⟨SY, hSY⟩ : ∃ S : ByteArray, S = ⟨Y.toArray⟩ := ⟨_, rfl⟩
  have HSY := Lib.hid hSY
  clear hSY
  have HCv := Lib.hid (show ∀ v, Ba v gx 62 Y → (convert 22 9 (.slice (some ⟨gx, 0, none⟩) 16 16)).run Tryz.prog v = .ok (.string SY) v from fun v hv => by
    have := conv hv.rd 16
    rw [HYl.out] at this
    rw [HSY.out]; exact this)
  have hsl := fun V : World => cut16 V gx
  try simp only [Act.put, List.setIfInBounds_toArray, List.set_cons_zero, List.set_cons_succ]
  refine restS_begin (fun v : World => Fx P G R ba n number (.slice Ak nk ck) (.slice Ax1 nx cx) v ∧ (convert 22 9 (.slice (some ⟨gx, 0, none⟩) 16 16)).run Tryz.prog v = .ok (.string SY) v ∧ Ba v gp 62 Pb ∧ Ba v gx 62 Y) (by kernel_rfl) ?_
  have GG := Lib.hid (show Grown w7 w7.drew from (Below.refl _ w7).drew)
  have T8 := Lib.hid (T7.out.grow KP.toKept KR.toKept GG.out)
  have A8 := Lib.hid (A7.out.grow GG.out)
  have K8 := Lib.hid (show Rd w7.drew B Ak key from K7.out)
  have X8 := Lib.hid (show Rd w7.drew B Ax1 X from X7.out)
  have C8 := Lib.hid (show Below B w w7.drew from C7.out.drew)
  have B8 := Lib.hid (B7.out.grow GG.out)
  have L8 := Lib.hid (show Loc w7.drew B F5 F2 gp from L7.out)
  have M8 := Lib.hid (show Loc w7.drew B F5 F2 gx from M7.out)
  have D8 := Lib.hid (show Ba w7.drew gp 62 Pb from D7.out)
  have N8 := Lib.hid (show Ba w7.drew gx 62 Y from N7.out)
  clear GG T7 A7 K7 X7 C7 B7 L7 M7 D7 N7
  generalize w7.drew = w8 at T8 A8 K8 X8 C8 B8 L8 M8 D8 N8 ⊢
  have S8 := Lib.hid (show Fx P G R ba n number (.slice Ak nk ck) (.slice Ax1 nx cx) w8 ∧ (convert 22 9 (.slice (some ⟨gx, 0, none⟩) 16 16)).run Tryz.prog w8 = .ok (.string SY) w8 ∧ Ba w8 gp 62 Pb ∧ Ba w8 gx 62 Y from ⟨T8.out.fx A8.out, HCv.out w8 N8.out, D8.out, N8.out⟩)
  refine restS_take (i := 0) S8.out rfl (by kernel_rfl) (by kernel_rfl) (by kernel_rfl) (by rfl) (fun v hv => by obtain ⟨⟨v1, v2, v3, v4, v5, v6⟩, v7, v8, v9⟩ := hv; go_simp; try with_reducible rfl) ?_
  try simp only [Act.put, List.setIfInBounds_toArray, List.set_cons_zero, List.set_cons_succ]
  refine restS_take (i := 1) S8.out rfl (by kernel_rfl) (by kernel_rfl) (by kernel_rfl) (by rfl) (fun v hv => by obtain ⟨⟨v1, v2, v3, v4, v5, v6⟩, v7, v8, v9⟩ := hv; go_simp; try with_reducible rfl) ?_
  try simp only [Act.put, List.setIfInBounds_toArray, List.set_cons_zero, List.set_cons_succ]
  refine restS_take (i := 2) S8.out rfl (by kernel_rfl) (by kernel_rfl) (by kernel_rfl) (by rfl) (fun v hv => by obtain ⟨⟨v1, v2, v3, v4, v5, v6⟩, v7, v8, v9⟩ := hv; go_simp; try with_reducible rfl) ?_
  try simp only [Act.put, List.setIfInBounds_toArray, List.set_cons_zero, List.set_cons_succ]
  refine restS_take (i := 3) S8.out rfl (by kernel_rfl) (by kernel_rfl) (by kernel_rfl) (by rfl) (fun v hv => by obtain ⟨⟨v1, v2, v3, v4, v5, v6⟩, v7, v8, v9⟩ := hv; go_simp; try with_reducible rfl) ?_
  try simp only [Act.put, List.setIfInBounds_toArray, List.set_cons_zero, List.set_cons_succ]
  refine restS_take (i := 4) S8.out rfl (by kernel_rfl) (by kernel_rfl) (by kernel_rfl) (by rfl) (fun v hv => by obtain ⟨⟨v1, v2, v3, v4, v5, v6⟩, v7, v8, v9⟩ := hv; go_simp; try with_reducible rfl) ?_
  try simp only [Act.put, List.setIfInBounds_toArray, List.set_cons_zero, List.set_cons_succ]
  refine restS_take (i := 5) S8.out rfl (by kernel_rfl) (by kernel_rfl) (by kernel_rfl) (by rfl) (fun v hv => by obtain ⟨⟨v1, v2, v3, v4, v5, v6⟩, v7, v8, v9⟩ := hv; go_simp; try with_reducible rfl) ?_
  try simp only [Act.put, List.setIfInBounds_toArray, List.set_cons_zero, List.set_cons_succ]
  refine restS_take (i := 6) S8.out rfl (by kernel_rfl) (by kernel_rfl) (by kernel_rfl) (by rfl) (fun v hv => by obtain ⟨⟨v1, v2, v3, v4, v5, v6⟩, v7, v8, v9⟩ := hv; go_simp; try with_reducible rfl) ?_
  try simp only [Act.put, List.setIfInBounds_toArray, List.set_cons_zero, List.set_cons_succ]
  refine restS_take (i := 7) S8.out rfl (by kernel_rfl) (by kernel_rfl) (by kernel_rfl) (by rfl) (fun v hv => by obtain ⟨⟨v1, v2, v3, v4, v5, v6⟩, v7, v8, v9⟩ := hv; go_simp; try with_reducible rfl) ?_
  try simp only [Act.put, List.setIfInBounds_toArray, List.set_cons_zero, List.set_cons_succ]
  refine restS_take (i := 8) S8.out rfl (by kernel_rfl) (by kernel_rfl) (by kernel_rfl) (by rfl) (fun v hv => by obtain ⟨⟨v1, v2, v3, v4, v5, v6⟩, v7, v8, v9⟩ := hv; go_simp; try with_reducible rfl) ?_
  try simp only [Act.put, List.setIfInBounds_toArray, List.set_cons_zero, List.set_cons_succ]
  refine restS_take (i := 9) S8.out rfl (by kernel_rfl) (by kernel_rfl) (by kernel_rfl) (by rfl) (fun v hv => by obtain ⟨⟨v1, v2, v3, v4, v5, v6⟩, v7, v8, v9⟩ := hv; go_simp; try with_reducible rfl) ?_
  try simp only [Act.put, List.setIfInBounds_toArray, List.set_cons_zero, List.set_cons_succ]
  refine restS_take (i := 10) S8.out rfl (by kernel_rfl) (by kernel_rfl) (by kernel_rfl) (by rfl) (fun v hv => by obtain ⟨⟨v1, v2, v3, v4, v5, v6⟩, v7, v8, v9⟩ := hv; go_simp; try with_reducible rfl) ?_
  try simp only [Act.put, List.setIfInBounds_toArray, List.set_cons_zero, List.set_cons_succ]
  refine restS_take (i := 11) S8.out rfl (by kernel_rfl) (by kernel_rfl) (by kernel_rfl) (by rfl) (fun v hv => exec_load_row 62 (.tmp 12) _ rfl hv.2.2.1 u16a rfl (by rw [i16a]; simp [bvs, HPl.out])) ?_
  try simp only [Act.put, List.setIfInBounds_toArray, List.set_cons_zero, List.set_cons_succ]
  refine restS_lone (i := 12) rfl (by kernel_rfl) (by rfl) (fun K hK => ?_)
  go_simp
  refine (KR.enc w8 R F2 st i Ak nk ck key Pb T8.out.r HI.out (by omega) (T8.out.besR K8.out HKl.out hkc) HN32.out HPl.out).mono ?_
  rintro e w9 ⟨rfl, F9, hO, hF9, hC⟩
  rw [← HS.out] at hO
  have T9 := Lib.hid (T8.out.stepR KP.toKept KR.toKept hO hF9 hC)
  have A9 := Lib.hid (A8.out.stepR hF9 hC)
  have C9 := Lib.hid (Below.trans C8.out (ch_below hC T8.out.rB T8.out.bw))
  have B9 := Lib.hid (B8.out.stepR hF9 hC)
  have L9 := Lib.hid (show Loc w9 B F5 F9 gp from L8.out.stepR hF9 hC.size)
  have M9 := Lib.hid (show Loc w9 B F5 F9 gx from M8.out.stepR hF9 hC.size)
  have D9 := Lib.hid (D8.out.ch hC L8.out.2.2.1)
  have N9 := Lib.hid (N8.out.ch hC M8.out.2.2.1)
  have S9 := Lib.hid (show Fx P G R ba n number (.slice Ak nk ck) (.slice Ax1 nx cx) w9 ∧ (convert 22 9 (.slice (some ⟨gx, 0, none⟩) 16 16)).run Tryz.prog w9 = .ok (.string SY) w9 ∧ Ba w9 gp 62 Pb ∧ Ba w9 gx 62 Y from ⟨T9.out.fx A9.out, HCv.out w9 N9.out, D9.out, N9.out⟩)
  clear hO hF9 hC T8 A8 K8 X8 C8 B8 L8 M8 D8 N8 S8
  rw [← HY.out, ← HSY.out]
  refine hK.out _ _ S9.out ?_
  clear hK K hsl
  try simp only [Act.put, List.setIfInBounds_toArray, List.set_cons_zero, List.set_cons_succ]
  refine restS_take (i := 13) S9.out rfl (by kernel_rfl) (by kernel_rfl) (by kernel_rfl) (by rfl) (fun v hv => by obtain ⟨⟨v1, v2, v3, v4, v5, v6⟩, v7, v8, v9⟩ := hv; go_simp; try with_reducible rfl) ?_
  try simp only [Act.put, List.setIfInBounds_toArray, List.set_cons_zero, List.set_cons_succ]
  refine restS_take (i := 14) S9.out rfl (by kernel_rfl) (by kernel_rfl) (by kernel_rfl) (by rfl) (fun v hv => by obtain ⟨⟨v1, v2, v3, v4, v5, v6⟩, v7, v8, v9⟩ := hv; go_simp; try with_reducible rfl) ?_
  try simp only [Act.put, List.setIfInBounds_toArray, List.set_cons_zero, List.set_cons_succ]
  refine restS_take (i := 15) S9.out rfl (by kernel_rfl) (by kernel_rfl) (by kernel_rfl) (by rfl) (fun v hv => by obtain ⟨⟨v1, v2, v3, v4, v5, v6⟩, v7, v8, v9⟩ := hv; go_simp; try with_reducible rfl) ?_
  try simp only [Act.put, List.setIfInBounds_toArray, List.set_cons_zero, List.set_cons_succ]
  refine restS_take (i := 16) S9.out rfl (by kernel_rfl) (by kernel_rfl) (by kernel_rfl) (by rfl) (fun v hv => by obtain ⟨⟨v1, v2, v3, v4, v5, v6⟩, v7, v8, v9⟩ := hv; go_simp; try with_reducible rfl) ?_
  try simp only [Act.put, List.setIfInBounds_toArray, List.set_cons_zero, List.set_cons_succ]
  refine restS_take (i := 17) S9.out rfl (by kernel_rfl) (by kernel_rfl) (by kernel_rfl) (by rfl) (fun v hv => exec_load_row 62 (.tmp 13) _ rfl hv.2.2.2 u16a rfl (by rw [i16a]; simp [bvs, HYl.out])) ?_
  try simp only [Act.put, List.setIfInBounds_toArray, List.set_cons_zero, List.set_cons_succ]
  refine restS_take (i := 19) S9.out rfl (by kernel_rfl) (by kernel_rfl) (by kernel_rfl) (by rfl) (fun v hv => exec_load_row 62 (.tmp 12) _ rfl hv.2.2.1 u16a rfl (by rw [i16a]; simp [bvs, HPl.out])) ?_
  try simp only [Act.put, List.setIfInBounds_toArray, List.set_cons_zero, List.set_cons_succ]
  have hnd := HIf.out.nd
  have hmd := HIf.out.md
  have hcd := HIf.out.cd trivial
  refine restS_lone (i := 18) rfl (by kernel_rfl) (by rfl) (fun K hK => ?_)
  go_simp
  clear hnd hmd hcd
  refine ((HCall.out w9 F5 st' (i + 1) T9.out.p HNm1.out (by omega) B9.out.same B9.out.size (fun k hk => (B9.out.loc k hk).1.2.1)).2 trivial Y HYl.out).mono ?_
  rw [HDe.out]
  rintro e w10 ⟨rfl, F10, hO, hF', hC⟩
  have T10 := Lib.hid (T9.out.stepP KP.toKept KR.toKept hO hF' hC)
  have A10 := Lib.hid (A9.out.stepP hF' hC)
  have C10 := Lib.hid (Below.trans C9.out (ch_below hC T9.out.pB T9.out.bw))
  have D10 := Lib.hid (D9.out.ch hC L9.out.2.1)
  have N10 := Lib.hid (N9.out.ch hC M9.out.2.1)
  have S10 := Lib.hid (show Fx P G R ba n number (.slice Ak nk ck) (.slice Ax1 nx cx) w10 ∧ (convert 22 9 (.slice (some ⟨gx, 0, none⟩) 16 16)).run Tryz.prog w10 = .ok (.string SY) w10 ∧ Ba w10 gp 62 Pb ∧ Ba w10 gx 62 Y from ⟨T10.out.fx A10.out, HCv.out w10 N10.out, D10.out, N10.out⟩)
  clear hO hF' hC T9 A9 C9 B9 L9 M9 D9 N9 S9
  refine hK.out _ _ S10.out ?_
  clear hK K
  try simp only [Act.put, List.setIfInBounds_toArray, List.set_cons_zero, List.set_cons_succ]
  refine restS_take (i := 20) S10.out rfl (by kernel_rfl) (by kernel_rfl) (by kernel_rfl) (by rfl) (fun v hv => exec_eq_arr Pb 62 16 u16a gt16 HPl.out (.tmp 182) (.tmp 183) rfl rfl v) ?_
  try simp only [Act.put, List.setIfInBounds_toArray, List.set_cons_zero, List.set_cons_succ]
  refine restS_take (i := 21) S10.out rfl (by kernel_rfl) (by kernel_rfl) (by kernel_rfl) (by rfl) (fun v hv => by obtain ⟨⟨v1, v2, v3, v4, v5, v6⟩, v7, v8, v9⟩ := hv; go_simp; try with_reducible rfl) ?_
  try simp only [Act.put, List.setIfInBounds_toArray, List.set_cons_zero, List.set_cons_succ]
  refine restS_take (i := 22) S10.out rfl (by kernel_rfl) (by kernel_rfl) (by kernel_rfl) (by rfl) (fun v hv => by obtain ⟨⟨v1, v2, v3, v4, v5, v6⟩, v7, v8, v9⟩ := hv; go_simp; try with_reducible rfl) ?_
  try simp only [Act.put, List.setIfInBounds_toArray, List.set_cons_zero, List.set_cons_succ]
  refine restS_done (by kernel_rfl) ?_
  go_wp2_with fail
  go_ret

  exact ⟨st', M.num_up _ _ _ HNm1.out (by omega) (by omega), by simp, F10, F9, T10.out, C10.out⟩
end Go.Proofs.YtjklgmhaebjjaaaGreat.S12
