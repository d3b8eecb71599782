/-
  Acts of the law: MACs. An act of the law, whichever it is; is it small?
-/
import Derived.Test.YtjklgmhaebjjaaaGreatMgOidealMain33
import Derived.Test.YtjklgmhaebjjaaaGreatMgOidealMain38
import Derived.Test.YtjklgmhaebjjaaaGreatMgOidealMain39
namespace Go.Proofs.YtjklgmhaebjjaaaGreat.S12
open S11
open Go.RowKit
set_option linter.unusedVariables false
set_option linter.unusedSimpArgs false

theorem bes_take {w : World} {F : Nat → Prop} {A : Option Addr} {n c : Nat} {l : List UInt8} (h : Bes w F A n c l) (k : Nat) (hk : k ≤ n) : Bes w F A k c (l.take k) := by
  obtain ⟨h1, h2, h3, h4⟩ := h
  refine ⟨h1.take k, by rw [List.length_take]; omega, by omega, fun x hx hl hf => h4 x hx (fun e => hl (by rw [e]; simp)) hf⟩
theorem bes_drop {w : World} {F : Nat → Prop} {A : Option Addr} {n c : Nat} {l : List UInt8} (h : Bes w F A n c l) (k : Nat) (A2 : Option Addr) (m d : Nat) (he : A2 = (if c = k then A else A.map (·.add k)) ∧ m = n - k ∧ d = c - k) (hk : k ≤ n) : Bes w F A2 m d (l.drop k) := by
  obtain ⟨rfl, rfl, rfl⟩ := he
  obtain ⟨h1, h2, h3, h4⟩ := h
  refine ⟨h1.cut (k := k) (cap := c) (by omega), by rw [List.length_drop]; omega, by omega, fun x hx hl hf => ?_⟩
  have hne : l ≠ [] := fun e => hl (by rw [e]; simp)
  by_cases hck : c = k
  · rw [if_pos hck] at hx
    exact h4 x hx hne hf
  · rw [if_neg hck] at hx
    cases A with
    | none => cases hx
    | some y =>
      simp only [Option.map_some, Option.some.injEq] at hx
      subst hx
      exact h4 y rfl hne (by
        have e : (y.add k).block = y.block := by unfold Addr.add; split <;> rfl
        rw [e] at hf
        exact hf)
/-- A region cut off from what follows: FF is all that is known behind it. -/
theorem reg_cut {P : Program} {id : Nat} {ops : Array Oper} {a : Act} {w : World} {Qx : Exit → Act → World → Prop} (FF : Nat → World → (Nat → Prop) → Prop) (act : Nat → Nat → Act) (h1 : ∀ Q2 : Exit → Act → World → Prop, (∀ gb gd v F1, FF gd v F1 → Q2 .normal (act gb gd) v) → (Code.region id ops true).wp P Q2 a w) (h2 : ∀ gb gd v F1, FF gd v F1 → Qx .normal (act gb gd) v) : (Code.region id ops true).wp P Qx a w := h1 Qx h2

set_option maxHeartbeats 16000000 in
set_option maxRecDepth 20000 in
theorem does_mac {M : Mod} {O Q : Ob M} {B P G R : Nat} (KP : ProgOk M B O) (KR : RefOk M B Q) (w : World) (F F2 : Nat → Prop) (st : M.σ) (i : Nat) (h : Two M O Q B P G R w F F2 st st) (hi : M.num st i) (hi2 : i ≤ 190) (n number : Int) (Ak : Option Addr) (nk ck : Nat) (key : List UInt8) (Ax1 : Option Addr) (nx cx : Nat) (X : List UInt8) (hk : Rd w B Ak key) (hkl : key.length = nk) (hkc : nk ≤ ck) (hk2 : nk ≤ 100) (hx : Rd w B Ax1 X) (hxl : X.length = nx) (hxc : nx ≤ cx) (hx2 : nx ≤ 1100) :
    Calls Tryz.prog 8 #[.pointer (some ⟨P, 0, none⟩), .agg #[.int .i64 0, .int .i64 n, .int .i64 number, .slice Ak nk ck, .slice Ax1 nx cx]] w fun e w' => ∃ st', M.num st' (i + 5) ∧ Does M O Q B P G R w st' e w' := by
  obtain ⟨hh, hhh⟩ : ∃ hh, hh = nx / 2 := ⟨_, rfl⟩
  have hhle : hh ≤ nx := by omega
  have hdiv : (nx : Int) / 2 = (hh : Int) := by omega
  obtain ⟨Ah, mh, ch, hAh⟩ : ∃ Ah mh ch, Ah = (if cx = hh then Ax1 else Ax1.map (·.add hh)) ∧ mh = nx - hh ∧ ch = cx - hh := ⟨_, _, _, rfl, rfl, rfl⟩
  have hs1 : ∀ V : World, (Instr.slice 22 (.slice Ax1 nx cx) none (some (.int .i64 (hh : Int))) none).run Tryz.prog V = .ok (.slice Ax1 hh cx) V := fun V => cutT V Ax1 nx cx hh (by omega)
  have hs2 : ∀ V : World, (Instr.slice 22 (.slice Ax1 nx cx) (some (.int .i64 (hh : Int))) none none).run Tryz.prog V = .ok (.slice Ah mh ch) V := fun V => by rw [hAh.1, hAh.2.1, hAh.2.2]; exact cutF V Ax1 nx cx hh hhle
  have HAh := Lib.hid hAh
  obtain ⟨Z64, hZ64⟩ : ∃ Z, Z = (bvs z64).toArray := ⟨_, rfl⟩
  obtain ⟨Z32, hZ32⟩ : ∃ Z, Z = (bvs z32).toArray := ⟨_, rfl⟩
  have HZ64 := Lib.hid hZ64
  have HZ32 := Lib.hid hZ32
  have hv64 : ∀ V : World, (zeroValue 43).run Tryz.prog V = .ok (.agg Z64) V := fun V => by rw [hZ64]; exact zv64 V
  have hv32 : ∀ V : World, (zeroValue 51).run Tryz.prog V = .ok (.agg Z32) V := fun V => by rw [hZ32]; exact zv32 V
  have hz64s : Z64.size = 64 := by rw [hZ64]; rfl
  have hz32s : Z32.size = 32 := by rw [hZ32]; rfl
  obtain ⟨D1, hD1⟩ : ∃ d, d = (M.mac st key X).1 := ⟨_, rfl⟩
  obtain ⟨st1, hst1⟩ : ∃ s, s = (M.mac st key X).2 := ⟨_, rfl⟩
  obtain ⟨E1, hE1⟩ : ∃ d, d = (M.tag st1 key X).1 := ⟨_, rfl⟩
  obtain ⟨st2, hst2⟩ : ∃ s, s = (M.tag st1 key X).2 := ⟨_, rfl⟩
  have HD1 := Lib.hid hD1
  have HSst1 := Lib.hid hst1
  have HE1 := Lib.hid hE1
  have HSst2 := Lib.hid hst2
  have HD1l := Lib.hid (show D1.length = 64 by rw [hD1]; exact M.len_mac st i _ _ hi)
  have HNm0 := Lib.hid hi
  have HNm1 := Lib.hid (show M.num st1 (i + 1) by rw [hst1]; exact M.num_mac st i _ _ hi (by omega))
  have HE1l := Lib.hid (show E1.length = 32 by rw [hE1]; exact M.len_tag st1 _ _ _ HNm1.out)
  have HNm2 := Lib.hid (show M.num st2 (i + 1 + 1) by rw [hst2]; exact M.num_tag st1 _ _ _ HNm1.out (by omega))
  clear hhh hAh hZ64 hZ32 hD1 hst1 hE1 hst2
  have H0 := Lib.hid h
  have HI := Lib.hid hi
  have HBw := Lib.hid h.bw
  have HK := Lib.hid hk
  have HX := Lib.hid hx
  have HKl := Lib.hid hkl
  have HXl := Lib.hid hxl
  have AA := Lib.hid (h.act KP.toKept KR.toKept (n := n) (number := number) (Vk := .slice Ak nk ck) (Vx := .slice Ax1 nx cx) 0)
  have TA := Lib.hid (h.grow KP.toKept KR.toKept (alloc_below w (.cells #[.int .i64 0, .int .i64 n, .int .i64 number, .slice Ak nk ck, .slice Ax1 nx cx] 38)))
  have GA := Lib.hid (alloc_below w (.cells #[.int .i64 0, .int .i64 n, .int .i64 number, .slice Ak nk ck, .slice Ax1 nx cx] 38))
  clear h hi hk hx hkl hxl
  go_enter Tryz.func8, Tryz.ntmps8
  go_wp2_with fail
  obtain ⟨ba, hba⟩ : ∃ ba, ba = w.heap.size := ⟨_, rfl⟩
  rw [← hba] at AA ⊢
  generalize w.alloc _ = wa at TA GA AA ⊢
  have HBa := Lib.hid hba
  have KA := Lib.hid (HK.out.below (Below.mono GA.out HBw.out))
  have XA := Lib.hid (HX.out.below (Below.mono GA.out HBw.out))
  have CA := Lib.hid (show Below B w wa from Below.mono GA.out HBw.out)
  clear H0 HK HX GA hba
  try simp only [Act.put, List.setIfInBounds_toArray, List.set_cons_zero, List.set_cons_succ]
  apply reg_cut (fun gd v F1 => Two M O Q B P G R v F1 F2 st1 st ∧ Ax B F1 F2 ba n number (.slice Ak nk ck) (.slice Ax1 nx cx) v ∧ Rd v B Ak key ∧ Rd v B Ax1 X ∧ Below B w v ∧ (Loc v B F1 F2 gd ∧ gd ≠ P ∧ ba ≠ gd) ∧ Ba v gd 43 D1)
  · intro Q2 key2
    have Hkey2 := Lib.hid key2
    clear key2
    try simp only [Act.put, List.setIfInBounds_toArray, List.set_cons_zero, List.set_cons_succ]
    refine restS_begin (Fx P G R ba n number (.slice Ak nk ck) (.slice Ax1 nx cx)) (by kernel_rfl) ?_
    have T0 := Lib.hid (TA.out.grow KP.toKept KR.toKept (show Grown wa wa.drew from (Below.refl _ wa).drew))
    have A0 := Lib.hid (AA.out.grow (show Grown wa wa.drew from (Below.refl _ wa).drew))
    have K0 := Lib.hid (show Rd wa.drew B Ak key from KA.out)
    have X0 := Lib.hid (show Rd wa.drew B Ax1 X from XA.out)
    have C0 := Lib.hid (show Below B w wa.drew from CA.out.drew)
    generalize wa.drew = w0 at T0 A0 K0 X0 C0 ⊢
    have S0 := Lib.hid (T0.out.fx A0.out)
    refine restS_take (i := 0) S0.out rfl (by kernel_rfl) (by kernel_rfl) (by kernel_rfl) (by rfl) (fun v hv => by obtain ⟨v1, v2, v3, v4, v5, v6⟩ := hv; go_simp; try with_reducible rfl) ?_
    try simp only [Act.put, List.setIfInBounds_toArray, List.set_cons_zero, List.set_cons_succ]
    refine restS_take (i := 1) S0.out rfl (by kernel_rfl) (by kernel_rfl) (by kernel_rfl) (by rfl) (fun v hv => by obtain ⟨v1, v2, v3, v4, v5, v6⟩ := hv; go_simp; try with_reducible rfl) ?_
    try simp only [Act.put, List.setIfInBounds_toArray, List.set_cons_zero, List.set_cons_succ]
    refine restS_take (i := 2) S0.out rfl (by kernel_rfl) (by kernel_rfl) (by kernel_rfl) (by rfl) (fun v hv => by obtain ⟨v1, v2, v3, v4, v5, v6⟩ := hv; go_simp; try with_reducible rfl) ?_
    try simp only [Act.put, List.setIfInBounds_toArray, List.set_cons_zero, List.set_cons_succ]
    refine restS_take (i := 3) S0.out rfl (by kernel_rfl) (by kernel_rfl) (by kernel_rfl) (by rfl) (fun v hv => by obtain ⟨v1, v2, v3, v4, v5, v6⟩ := hv; go_simp; try with_reducible rfl) ?_
    try simp only [Act.put, List.setIfInBounds_toArray, List.set_cons_zero, List.set_cons_succ]
    refine restS_take (i := 4) S0.out rfl (by kernel_rfl) (by kernel_rfl) (by kernel_rfl) (by rfl) (fun v hv => by obtain ⟨v1, v2, v3, v4, v5, v6⟩ := hv; go_simp; try with_reducible rfl) ?_
    try simp only [Act.put, List.setIfInBounds_toArray, List.set_cons_zero, List.set_cons_succ]
    refine restS_take (i := 5) S0.out rfl (by kernel_rfl) (by kernel_rfl) (by kernel_rfl) (by rfl) (fun v hv => by obtain ⟨v1, v2, v3, v4, v5, v6⟩ := hv; go_simp; try with_reducible rfl) ?_
    try simp only [Act.put, List.setIfInBounds_toArray, List.set_cons_zero, List.set_cons_succ]
    refine restS_take (i := 6) S0.out rfl (by kernel_rfl) (by kernel_rfl) (by kernel_rfl) (by rfl) (fun v hv => by obtain ⟨v1, v2, v3, v4, v5, v6⟩ := hv; go_simp; try with_reducible rfl) ?_
    try simp only [Act.put, List.setIfInBounds_toArray, List.set_cons_zero, List.set_cons_succ]
    refine restS_take (i := 7) S0.out rfl (by kernel_rfl) (by kernel_rfl) (by kernel_rfl) (by rfl) (fun v hv => by obtain ⟨v1, v2, v3, v4, v5, v6⟩ := hv; go_simp; try with_reducible rfl) ?_
    try simp only [Act.put, List.setIfInBounds_toArray, List.set_cons_zero, List.set_cons_succ]
    refine restS_take (i := 8) S0.out rfl (by kernel_rfl) (by kernel_rfl) (by kernel_rfl) (by rfl) (fun v hv => by obtain ⟨v1, v2, v3, v4, v5, v6⟩ := hv; go_simp; try with_reducible rfl) ?_
    try simp only [Act.put, List.setIfInBounds_toArray, List.set_cons_zero, List.set_cons_succ]
    refine restS_take (i := 9) S0.out rfl (by kernel_rfl) (by kernel_rfl) (by kernel_rfl) (by rfl) (fun v hv => by obtain ⟨v1, v2, v3, v4, v5, v6⟩ := hv; go_simp; try with_reducible rfl) ?_
    try simp only [Act.put, List.setIfInBounds_toArray, List.set_cons_zero, List.set_cons_succ]
    refine restS_take (i := 10) S0.out rfl (by kernel_rfl) (by kernel_rfl) (by kernel_rfl) (by rfl) (fun v hv => by obtain ⟨v1, v2, v3, v4, v5, v6⟩ := hv; go_simp; try with_reducible rfl) ?_
    try simp only [Act.put, List.setIfInBounds_toArray, List.set_cons_zero, List.set_cons_succ]
    refine restS_take (i := 11) S0.out rfl (by kernel_rfl) (by kernel_rfl) (by kernel_rfl) (by rfl) (fun v hv => by obtain ⟨v1, v2, v3, v4, v5, v6⟩ := hv; go_simp; try with_reducible rfl) ?_
    try simp only [Act.put, List.setIfInBounds_toArray, List.set_cons_zero, List.set_cons_succ]
    refine restS_take (i := 12) S0.out rfl (by kernel_rfl) (by kernel_rfl) (by kernel_rfl) (by rfl) (fun v hv => by obtain ⟨v1, v2, v3, v4, v5, v6⟩ := hv; go_simp; try with_reducible rfl) ?_
    try simp only [Act.put, List.setIfInBounds_toArray, List.set_cons_zero, List.set_cons_succ]
    refine restS_take (i := 13) S0.out rfl (by kernel_rfl) (by kernel_rfl) (by kernel_rfl) (by rfl) (fun v hv => by obtain ⟨v1, v2, v3, v4, v5, v6⟩ := hv; go_simp; try with_reducible rfl) ?_
    try simp only [Act.put, List.setIfInBounds_toArray, List.set_cons_zero, List.set_cons_succ]
    refine restS_two (i := 14) (j := 16) rfl rfl (by kernel_rfl) (by rfl) (by rfl) (fun K hK => ?g1) (fun K hK => ?g2)
    case' g1 =>
      go_simp
      have GG := Lib.hid (alloc_below w0 (.cells #[.slice Ax1 hh cx, .slice Ah mh ch] 22))
      have T1 := Lib.hid (T0.out.grow KP.toKept KR.toKept GG.out)
      have A1 := Lib.hid (A0.out.grow GG.out)
      have K1 := Lib.hid (K0.out.below (Below.mono GG.out T0.out.bw))
      have X1 := Lib.hid (X0.out.below (Below.mono GG.out T0.out.bw))
      have C1 := Lib.hid (Below.trans C0.out (Below.mono GG.out T0.out.bw))
      have S1 := Lib.hid (T1.out.fx A1.out)
      have BL1 := Lib.hid (besL_two KP.toKept T0.out.p (bes_take (T0.out.besP X0.out HXl.out hxc) hh (by omega)) (bes_drop (T0.out.besP X0.out HXl.out hxc) hh Ah mh ch HAh.out (by omega)))
      obtain ⟨gb, hgb⟩ : ∃ g, g = w0.heap.size := ⟨_, rfl⟩
      rw [← hgb] at BL1 ⊢
      clear hgb GG T0 A0 K0 X0 C0 S0
      generalize w0.alloc _ = w1 at T1 A1 K1 X1 C1 S1 BL1 ⊢
      refine hK.out _ _ S1.out ?_
      clear hK K
      try simp only [Act.put, List.setIfInBounds_toArray, List.set_cons_zero, List.set_cons_succ]
      refine restS_two (i := 15) (j := 16) rfl rfl (by kernel_rfl) (by rfl) (by rfl) (fun K hK => ?g3) (fun K hK => ?g4)

    case' g3 =>
      go_simp
      have hcall := KP.mac w1 G F st i Ak nk ck key (some ⟨gb, 0, none⟩) 2 2 [X.take hh, X.drop hh] T1.out.p HNm0.out (by omega) (T1.out.besP K1.out HKl.out hkc) (by omega) BL1.out (by omega) (by rw [show [X.take hh, X.drop hh].flatten = X by simp]; rw [HXl.out]; omega)
      rw [show [X.take hh, X.drop hh].flatten = X by simp, ← HD1.out, ← HSst1.out] at hcall
      refine hcall.mono ?_
      rintro e w2 ⟨rfl, F1, hO, hF', hC⟩
      have T2 := Lib.hid (T1.out.stepP KP.toKept KR.toKept hO hF' hC)
      have A2 := Lib.hid (A1.out.stepP hF' hC)
      have C2 := Lib.hid (Below.trans C1.out (ch_below hC T1.out.pB T1.out.bw))
      have K2 := Lib.hid (K1.out.below (ch_below hC T1.out.pB T1.out.bw))
      have X2 := Lib.hid (X1.out.below (ch_below hC T1.out.pB T1.out.bw))
      have S2 := Lib.hid (T2.out.fx A2.out)
      clear hO hF' hC
      clear BL1 hcall T1 A1 K1 X1 C1 S1
      refine hK.out _ _ S2.out ?_
      clear hK K
      try simp only [Act.put, List.setIfInBounds_toArray, List.set_cons_zero, List.set_cons_succ]
      refine restS_lone (i := 16) rfl (by kernel_rfl) (by rfl) (fun K hK => ?_)
      go_simp
      rw [HZ64.out]
      have GG := Lib.hid (alloc_below w2 (.cells (bvs z64).toArray 43))
      have T3 := Lib.hid (T2.out.grow KP.toKept KR.toKept GG.out)
      have A3 := Lib.hid (A2.out.grow GG.out)
      have K3 := Lib.hid (K2.out.below (Below.mono GG.out T2.out.bw))
      have X3 := Lib.hid (X2.out.below (Below.mono GG.out T2.out.bw))
      have C3 := Lib.hid (Below.trans C2.out (Below.mono GG.out T2.out.bw))
      have S3 := Lib.hid (T3.out.fx A3.out)
      have L3 := Lib.hid (show Loc (w2.alloc (.cells (bvs z64).toArray 43)) B F1 F2 w2.heap.size ∧ w2.heap.size ≠ P ∧ ba ≠ w2.heap.size from ⟨(T2.out.locNew KP.toKept KR.toKept _).1, (T2.out.locNew KP.toKept KR.toKept (.cells (bvs z64).toArray 43)).2, fun e => by have := A2.out.loc.1; omega⟩)
      have D3 := Lib.hid (Ba.new w2 43 z64)
      obtain ⟨gd, hgd⟩ : ∃ g, g = w2.heap.size := ⟨_, rfl⟩
      rw [← hgd] at L3 D3 ⊢
      clear hgd GG T2 A2 K2 X2 C2 S2
      generalize w2.alloc _ = w3 at T3 A3 K3 X3 C3 S3 L3 D3 ⊢
      refine hK.out _ _ S3.out ?_
      clear hK K
      try simp only [Act.put, List.setIfInBounds_toArray, List.set_cons_zero, List.set_cons_succ]

    case' g4 =>
      go_simp
      rw [HZ64.out]
      have GG := Lib.hid (alloc_below w1 (.cells (bvs z64).toArray 43))
      have T2 := Lib.hid (T1.out.grow KP.toKept KR.toKept GG.out)
      have A2 := Lib.hid (A1.out.grow GG.out)
      have K2 := Lib.hid (K1.out.below (Below.mono GG.out T1.out.bw))
      have X2 := Lib.hid (X1.out.below (Below.mono GG.out T1.out.bw))
      have C2 := Lib.hid (Below.trans C1.out (Below.mono GG.out T1.out.bw))
      have S2 := Lib.hid (T2.out.fx A2.out)
      have L2 := Lib.hid (show Loc (w1.alloc (.cells (bvs z64).toArray 43)) B F F2 w1.heap.size ∧ w1.heap.size ≠ P ∧ ba ≠ w1.heap.size from ⟨(T1.out.locNew KP.toKept KR.toKept _).1, (T1.out.locNew KP.toKept KR.toKept (.cells (bvs z64).toArray 43)).2, fun e => by have := A1.out.loc.1; omega⟩)
      have D2 := Lib.hid (Ba.new w1 43 z64)
      have BL2 := Lib.hid (BL1.out.grow GG.out)
      obtain ⟨gd, hgd⟩ : ∃ g, g = w1.heap.size := ⟨_, rfl⟩
      rw [← hgd] at L2 D2 ⊢
      clear hgd GG T1 A1 K1 X1 C1 S1 BL1
      generalize w1.alloc _ = w2 at T2 A2 K2 X2 C2 S2 L2 D2 BL2 ⊢
      refine hK.out _ _ S2.out ?_
      clear hK K
      try simp only [Act.put, List.setIfInBounds_toArray, List.set_cons_zero, List.set_cons_succ]
      refine restS_lone (i := 15) rfl (by kernel_rfl) (by rfl) (fun K hK => ?_)
      go_simp
      have hcall := KP.mac w2 G F st i Ak nk ck key (some ⟨gb, 0, none⟩) 2 2 [X.take hh, X.drop hh] T2.out.p HNm0.out (by omega) (T2.out.besP K2.out HKl.out hkc) (by omega) BL2.out (by omega) (by rw [show [X.take hh, X.drop hh].flatten = X by simp]; rw [HXl.out]; omega)
      rw [show [X.take hh, X.drop hh].flatten = X by simp, ← HD1.out, ← HSst1.out] at hcall
      refine hcall.mono ?_
      rintro e w3 ⟨rfl, F1, hO, hF', hC⟩
      have T3 := Lib.hid (T2.out.stepP KP.toKept KR.toKept hO hF' hC)
      have A3 := Lib.hid (A2.out.stepP hF' hC)
      have C3 := Lib.hid (Below.trans C2.out (ch_below hC T2.out.pB T2.out.bw))
      have K3 := Lib.hid (K2.out.below (ch_below hC T2.out.pB T2.out.bw))
      have X3 := Lib.hid (X2.out.below (ch_below hC T2.out.pB T2.out.bw))
      have S3 := Lib.hid (T3.out.fx A3.out)
      have L3 := Lib.hid (show Loc w3 B F1 F2 gd ∧ gd ≠ P ∧ ba ≠ gd from ⟨L2.out.1.stepP hF' hC.size, L2.out.2⟩)
      have D3 := Lib.hid (D2.out.ch hC L2.out.1.2.1)
      clear hO hF' hC
      clear BL2 hcall T2 A2 K2 X2 C2 S2 L2 D2
      refine hK.out _ _ S3.out ?_
      clear hK K
      try simp only [Act.put, List.setIfInBounds_toArray, List.set_cons_zero, List.set_cons_succ]

    case' g2 =>
      go_simp
      rw [HZ64.out]
      have GG := Lib.hid (alloc_below w0 (.cells (bvs z64).toArray 43))
      have T1 := Lib.hid (T0.out.grow KP.toKept KR.toKept GG.out)
      have A1 := Lib.hid (A0.out.grow GG.out)
      have K1 := Lib.hid (K0.out.below (Below.mono GG.out T0.out.bw))
      have X1 := Lib.hid (X0.out.below (Below.mono GG.out T0.out.bw))
      have C1 := Lib.hid (Below.trans C0.out (Below.mono GG.out T0.out.bw))
      have S1 := Lib.hid (T1.out.fx A1.out)
      have L1 := Lib.hid (show Loc (w0.alloc (.cells (bvs z64).toArray 43)) B F F2 w0.heap.size ∧ w0.heap.size ≠ P ∧ ba ≠ w0.heap.size from ⟨(T0.out.locNew KP.toKept KR.toKept _).1, (T0.out.locNew KP.toKept KR.toKept (.cells (bvs z64).toArray 43)).2, fun e => by have := A0.out.loc.1; omega⟩)
      have D1 := Lib.hid (Ba.new w0 43 z64)
      obtain ⟨gd, hgd⟩ : ∃ g, g = w0.heap.size := ⟨_, rfl⟩
      rw [← hgd] at L1 D1 ⊢
      clear hgd GG T0 A0 K0 X0 C0 S0
      generalize w0.alloc _ = w1 at T1 A1 K1 X1 C1 S1 L1 D1 ⊢
      refine hK.out _ _ S1.out ?_
      clear hK K
      try simp only [Act.put, List.setIfInBounds_toArray, List.set_cons_zero, List.set_cons_succ]
      refine restS_lone (i := 14) rfl (by kernel_rfl) (by rfl) (fun K hK => ?_)
      go_simp
      have GG := Lib.hid (alloc_below w1 (.cells #[.slice Ax1 hh cx, .slice Ah mh ch] 22))
      have T2 := Lib.hid (T1.out.grow KP.toKept KR.toKept GG.out)
      have A2 := Lib.hid (A1.out.grow GG.out)
      have K2 := Lib.hid (K1.out.below (Below.mono GG.out T1.out.bw))
      have X2 := Lib.hid (X1.out.below (Below.mono GG.out T1.out.bw))
      have C2 := Lib.hid (Below.trans C1.out (Below.mono GG.out T1.out.bw))
      have S2 := Lib.hid (T2.out.fx A2.out)
      have L2 := Lib.hid (show Loc _ B F F2 gd ∧ gd ≠ P ∧ ba ≠ gd from ⟨L1.out.1.grow GG.out.size, L1.out.2⟩)
      have D2 := Lib.hid (D1.out.grow GG.out)
      have BL2 := Lib.hid (besL_two KP.toKept T1.out.p (bes_take (T1.out.besP X1.out HXl.out hxc) hh (by omega)) (bes_drop (T1.out.besP X1.out HXl.out hxc) hh Ah mh ch HAh.out (by omega)))
      obtain ⟨gb, hgb⟩ : ∃ g, g = w1.heap.size := ⟨_, rfl⟩
      rw [← hgb] at BL2 ⊢
      clear hgb GG T1 A1 K1 X1 C1 S1 L1 D1
      generalize w1.alloc _ = w2 at T2 A2 K2 X2 C2 S2 L2 D2 BL2 ⊢
      refine hK.out _ _ S2.out ?_
      clear hK K
      try simp only [Act.put, List.setIfInBounds_toArray, List.set_cons_zero, List.set_cons_succ]
      refine restS_lone (i := 15) rfl (by kernel_rfl) (by rfl) (fun K hK => ?_)
      go_simp
      have hcall := KP.mac w2 G F st i Ak nk ck key (some ⟨gb, 0, none⟩) 2 2 [X.take hh, X.drop hh] T2.out.p HNm0.out (by omega) (T2.out.besP K2.out HKl.out hkc) (by omega) BL2.out (by omega) (by rw [show [X.take hh, X.drop hh].flatten = X by simp]; rw [HXl.out]; omega)
      rw [show [X.take hh, X.drop hh].flatten = X by simp, ← HD1.out, ← HSst1.out] at hcall
      refine hcall.mono ?_
      rintro e w3 ⟨rfl, F1, hO, hF', hC⟩
      have T3 := Lib.hid (T2.out.stepP KP.toKept KR.toKept hO hF' hC)
      have A3 := Lib.hid (A2.out.stepP hF' hC)
      have C3 := Lib.hid (Below.trans C2.out (ch_below hC T2.out.pB T2.out.bw))
      have K3 := Lib.hid (K2.out.below (ch_below hC T2.out.pB T2.out.bw))
      have X3 := Lib.hid (X2.out.below (ch_below hC T2.out.pB T2.out.bw))
      have S3 := Lib.hid (T3.out.fx A3.out)
      have L3 := Lib.hid (show Loc w3 B F1 F2 gd ∧ gd ≠ P ∧ ba ≠ gd from ⟨L2.out.1.stepP hF' hC.size, L2.out.2⟩)
      have D3 := Lib.hid (D2.out.ch hC L2.out.1.2.1)
      clear hO hF' hC
      clear BL2 hcall T2 A2 K2 X2 C2 S2 L2 D2
      refine hK.out _ _ S3.out ?_
      clear hK K
      try simp only [Act.put, List.setIfInBounds_toArray, List.set_cons_zero, List.set_cons_succ]

    all_goals
      refine restS_lone (i := 17) rfl (by kernel_rfl) (by rfl) (fun K hK => ?_)
      have T4 := Lib.hid (T3.out.row KP.toKept KR.toKept L3.out.1 L3.out.2.1 (bvs D1).toArray)
      have A4 := Lib.hid (A3.out.row L3.out.2.2 (bvs D1).toArray)
      have D4 := Lib.hid (D3.out.row D1)
      have L4 := Lib.hid (show Loc (w3.setRow gd (bvs D1).toArray) B F1 F2 gd from L3.out.1.grow (by simp [World.setRow]))
      have C4 := Lib.hid (below_setRow C3.out L3.out.1.2.2.2 (bvs D1).toArray)
      have K4 := Lib.hid (K3.out.below (below_setRow (Below.refl B w3) L3.out.1.2.2.2 (bvs D1).toArray))
      have X4 := Lib.hid (X3.out.below (below_setRow (Below.refl B w3) L3.out.1.2.2.2 (bvs D1).toArray))
      refine wp_store_ba i64a (.tmp 6) (.tmp 44) rfl rfl (M := D1) rfl (L := z64) D3.out rfl HD1l.out (hK.out _ _ (T4.out.fx A4.out) ?_)
      clear hK K
      try simp only [Act.put, List.setIfInBounds_toArray, List.set_cons_zero, List.set_cons_succ]
      refine restS_done (by kernel_rfl) ?_
      exact Hkey2.out gb gd _ F1 ⟨T4.out, A4.out, K4.out, X4.out, C4.out, ⟨L4.out, L3.out.2⟩, D4.out⟩

  · intro gb gs wB F1 hf
    obtain ⟨h5T, h5A, h5K, h5X, h5C, h5L, h5D⟩ := hf
    have TB := Lib.hid h5T
    have AB := Lib.hid h5A
    have KB := Lib.hid h5K
    have XB := Lib.hid h5X
    have CB := Lib.hid h5C
    have LB := Lib.hid h5L
    have DB := Lib.hid h5D
    clear h5T h5A h5K h5X h5C h5L h5D
    go_wp2_with fail
    try simp only [Act.put, List.setIfInBounds_toArray, List.set_cons_zero, List.set_cons_succ]
    apply reg_cut (fun gd v F3 => (Two M O Q B P G R v F3 F2 st2 st ∧ Ax B F3 F2 ba n number (.slice Ak nk ck) (.slice Ax1 nx cx) v ∧ Rd v B Ak key ∧ Rd v B Ax1 X ∧ Below B w v ∧ (Loc v B F3 F2 gd ∧ gd ≠ P ∧ ba ≠ gd) ∧ Ba v gd 51 E1) ∧ (Loc v B F3 F2 gs ∧ gs ≠ P ∧ ba ≠ gs) ∧ Ba v gs 43 D1)
    · intro Q2 key2
      have Hkey2 := Lib.hid key2
      clear key2
      try simp only [Act.put, List.setIfInBounds_toArray, List.set_cons_zero, List.set_cons_succ]
      refine restS_begin (Fx P G R ba n number (.slice Ak nk ck) (.slice Ax1 nx cx)) (by kernel_rfl) ?_
      have T0 := Lib.hid (TB.out.grow KP.toKept KR.toKept (show Grown wB wB.drew from (Below.refl _ wB).drew))
      have A0 := Lib.hid (AB.out.grow (show Grown wB wB.drew from (Below.refl _ wB).drew))
      have K0 := Lib.hid (show Rd wB.drew B Ak key from KB.out)
      have X0 := Lib.hid (show Rd wB.drew B Ax1 X from XB.out)
      have C0 := Lib.hid (show Below B w wB.drew from CB.out.drew)
      have M0 := Lib.hid (show Loc wB.drew B F1 F2 gs ∧ gs ≠ P ∧ ba ≠ gs from LB.out)
      have N0 := Lib.hid (show Ba wB.drew gs 43 D1 from DB.out)
      generalize wB.drew = w0 at T0 A0 K0 X0 C0 M0 N0 ⊢
      have S0 := Lib.hid (T0.out.fx A0.out)
      refine restS_take (i := 0) S0.out rfl (by kernel_rfl) (by kernel_rfl) (by kernel_rfl) (by rfl) (fun v hv => by obtain ⟨v1, v2, v3, v4, v5, v6⟩ := hv; go_simp; try with_reducible rfl) ?_
      try simp only [Act.put, List.setIfInBounds_toArray, List.set_cons_zero, List.set_cons_succ]
      refine restS_take (i := 1) S0.out rfl (by kernel_rfl) (by kernel_rfl) (by kernel_rfl) (by rfl) (fun v hv => by obtain ⟨v1, v2, v3, v4, v5, v6⟩ := hv; go_simp; try with_reducible rfl) ?_
      try simp only [Act.put, List.setIfInBounds_toArray, List.set_cons_zero, List.set_cons_succ]
      refine restS_take (i := 2) S0.out rfl (by kernel_rfl) (by kernel_rfl) (by kernel_rfl) (by rfl) (fun v hv => by obtain ⟨v1, v2, v3, v4, v5, v6⟩ := hv; go_simp; try with_reducible rfl) ?_
      try simp only [Act.put, List.setIfInBounds_toArray, List.set_cons_zero, List.set_cons_succ]
      refine restS_take (i := 3) S0.out rfl (by kernel_rfl) (by kernel_rfl) (by kernel_rfl) (by rfl) (fun v hv => by obtain ⟨v1, v2, v3, v4, v5, v6⟩ := hv; go_simp; try with_reducible rfl) ?_
      try simp only [Act.put, List.setIfInBounds_toArray, List.set_cons_zero, List.set_cons_succ]
      refine restS_take (i := 4) S0.out rfl (by kernel_rfl) (by kernel_rfl) (by kernel_rfl) (by rfl) (fun v hv => by obtain ⟨v1, v2, v3, v4, v5, v6⟩ := hv; go_simp; try with_reducible rfl) ?_
      try simp only [Act.put, List.setIfInBounds_toArray, List.set_cons_zero, List.set_cons_succ]
      refine restS_take (i := 5) S0.out rfl (by kernel_rfl) (by kernel_rfl) (by kernel_rfl) (by rfl) (fun v hv => by obtain ⟨v1, v2, v3, v4, v5, v6⟩ := hv; go_simp; try with_reducible rfl) ?_
      try simp only [Act.put, List.setIfInBounds_toArray, List.set_cons_zero, List.set_cons_succ]
      refine restS_take (i := 6) S0.out rfl (by kernel_rfl) (by kernel_rfl) (by kernel_rfl) (by rfl) (fun v hv => by obtain ⟨v1, v2, v3, v4, v5, v6⟩ := hv; go_simp; try with_reducible rfl) ?_
      try simp only [Act.put, List.setIfInBounds_toArray, List.set_cons_zero, List.set_cons_succ]
      refine restS_take (i := 7) S0.out rfl (by kernel_rfl) (by kernel_rfl) (by kernel_rfl) (by rfl) (fun v hv => by obtain ⟨v1, v2, v3, v4, v5, v6⟩ := hv; go_simp; try with_reducible rfl) ?_
      try simp only [Act.put, List.setIfInBounds_toArray, List.set_cons_zero, List.set_cons_succ]
      refine restS_two (i := 8) (j := 10) rfl rfl (by kernel_rfl) (by rfl) (by rfl) (fun K hK => ?q1) (fun K hK => ?q2)
      case' q1 =>
        go_simp
        have GG := Lib.hid (alloc_below w0 (.cells #[.slice Ax1 nx cx] 22))
        have T1 := Lib.hid (T0.out.grow KP.toKept KR.toKept GG.out)
        have A1 := Lib.hid (A0.out.grow GG.out)
        have K1 := Lib.hid (K0.out.below (Below.mono GG.out T0.out.bw))
        have X1 := Lib.hid (X0.out.below (Below.mono GG.out T0.out.bw))
        have C1 := Lib.hid (Below.trans C0.out (Below.mono GG.out T0.out.bw))
        have S1 := Lib.hid (T1.out.fx A1.out)
        have M1 := Lib.hid (show Loc _ B F1 F2 gs ∧ gs ≠ P ∧ ba ≠ gs from ⟨M0.out.1.grow GG.out.size, M0.out.2⟩)
        have N1 := Lib.hid (N0.out.grow GG.out)
        have BL1 := Lib.hid (besL_one KP.toKept T0.out.p (T0.out.besP X0.out HXl.out hxc))
        obtain ⟨gb, hgb⟩ : ∃ g, g = w0.heap.size := ⟨_, rfl⟩
        rw [← hgb] at BL1 ⊢
        clear hgb GG T0 A0 K0 X0 C0 S0 M0 N0
        generalize w0.alloc _ = w1 at T1 A1 K1 X1 C1 S1 M1 N1 BL1 ⊢
        refine hK.out _ _ S1.out ?_
        clear hK K
        try simp only [Act.put, List.setIfInBounds_toArray, List.set_cons_zero, List.set_cons_succ]
        refine restS_two (i := 9) (j := 10) rfl rfl (by kernel_rfl) (by rfl) (by rfl) (fun K hK => ?q3) (fun K hK => ?q4)

      case' q3 =>
        go_simp
        have hcall := KP.tag w1 G F1 st1 (i + 1) Ak nk ck key (some ⟨gb, 0, none⟩) 1 1 [X] T1.out.p HNm1.out (by omega) (T1.out.besP K1.out HKl.out hkc) (by omega) BL1.out (by omega) (by rw [show [X].flatten = X by simp]; rw [HXl.out]; omega)
        rw [show [X].flatten = X by simp, ← HE1.out, ← HSst2.out] at hcall
        refine hcall.mono ?_
        rintro e w2 ⟨rfl, F3, hO, hF', hC⟩
        have T2 := Lib.hid (T1.out.stepP KP.toKept KR.toKept hO hF' hC)
        have A2 := Lib.hid (A1.out.stepP hF' hC)
        have C2 := Lib.hid (Below.trans C1.out (ch_below hC T1.out.pB T1.out.bw))
        have K2 := Lib.hid (K1.out.below (ch_below hC T1.out.pB T1.out.bw))
        have X2 := Lib.hid (X1.out.below (ch_below hC T1.out.pB T1.out.bw))
        have S2 := Lib.hid (T2.out.fx A2.out)
        have M2 := Lib.hid (show Loc w2 B F3 F2 gs ∧ gs ≠ P ∧ ba ≠ gs from ⟨M1.out.1.stepP hF' hC.size, M1.out.2⟩)
        have N2 := Lib.hid (N1.out.ch hC M1.out.1.2.1)
        clear hO hF' hC
        clear BL1 hcall T1 A1 K1 X1 C1 S1 M1 N1
        refine hK.out _ _ S2.out ?_
        clear hK K
        try simp only [Act.put, List.setIfInBounds_toArray, List.set_cons_zero, List.set_cons_succ]
        refine restS_lone (i := 10) rfl (by kernel_rfl) (by rfl) (fun K hK => ?_)
        go_simp
        rw [HZ32.out]
        have GG := Lib.hid (alloc_below w2 (.cells (bvs z32).toArray 51))
        have T3 := Lib.hid (T2.out.grow KP.toKept KR.toKept GG.out)
        have A3 := Lib.hid (A2.out.grow GG.out)
        have K3 := Lib.hid (K2.out.below (Below.mono GG.out T2.out.bw))
        have X3 := Lib.hid (X2.out.below (Below.mono GG.out T2.out.bw))
        have C3 := Lib.hid (Below.trans C2.out (Below.mono GG.out T2.out.bw))
        have S3 := Lib.hid (T3.out.fx A3.out)
        have M3 := Lib.hid (show Loc _ B F3 F2 gs ∧ gs ≠ P ∧ ba ≠ gs from ⟨M2.out.1.grow GG.out.size, M2.out.2⟩)
        have N3 := Lib.hid (N2.out.grow GG.out)
        have L3 := Lib.hid (show Loc (w2.alloc (.cells (bvs z32).toArray 51)) B F3 F2 w2.heap.size ∧ w2.heap.size ≠ P ∧ ba ≠ w2.heap.size from ⟨(T2.out.locNew KP.toKept KR.toKept _).1, (T2.out.locNew KP.toKept KR.toKept (.cells (bvs z32).toArray 51)).2, fun e => by have := A2.out.loc.1; omega⟩)
        have D3 := Lib.hid (Ba.new w2 51 z32)
        have VE := Lib.hid (show gs ≠ w2.heap.size from fun e => by have := M2.out.1.1; omega)
        obtain ⟨gd, hgd⟩ : ∃ g, g = w2.heap.size := ⟨_, rfl⟩
        rw [← hgd] at L3 D3 VE ⊢
        clear hgd GG T2 A2 K2 X2 C2 S2 M2 N2
        generalize w2.alloc _ = w3 at T3 A3 K3 X3 C3 S3 M3 N3 L3 D3 ⊢
        refine hK.out _ _ S3.out ?_
        clear hK K
        try simp only [Act.put, List.setIfInBounds_toArray, List.set_cons_zero, List.set_cons_succ]

      case' q4 =>
        go_simp
        rw [HZ32.out]
        have GG := Lib.hid (alloc_below w1 (.cells (bvs z32).toArray 51))
        have T2 := Lib.hid (T1.out.grow KP.toKept KR.toKept GG.out)
        have A2 := Lib.hid (A1.out.grow GG.out)
        have K2 := Lib.hid (K1.out.below (Below.mono GG.out T1.out.bw))
        have X2 := Lib.hid (X1.out.below (Below.mono GG.out T1.out.bw))
        have C2 := Lib.hid (Below.trans C1.out (Below.mono GG.out T1.out.bw))
        have S2 := Lib.hid (T2.out.fx A2.out)
        have M2 := Lib.hid (show Loc _ B F1 F2 gs ∧ gs ≠ P ∧ ba ≠ gs from ⟨M1.out.1.grow GG.out.size, M1.out.2⟩)
        have N2 := Lib.hid (N1.out.grow GG.out)
        have L2 := Lib.hid (show Loc (w1.alloc (.cells (bvs z32).toArray 51)) B F1 F2 w1.heap.size ∧ w1.heap.size ≠ P ∧ ba ≠ w1.heap.size from ⟨(T1.out.locNew KP.toKept KR.toKept _).1, (T1.out.locNew KP.toKept KR.toKept (.cells (bvs z32).toArray 51)).2, fun e => by have := A1.out.loc.1; omega⟩)
        have D2 := Lib.hid (Ba.new w1 51 z32)
        have VE := Lib.hid (show gs ≠ w1.heap.size from fun e => by have := M1.out.1.1; omega)
        have BL2 := Lib.hid (BL1.out.grow GG.out)
        obtain ⟨gd, hgd⟩ : ∃ g, g = w1.heap.size := ⟨_, rfl⟩
        rw [← hgd] at L2 D2 VE ⊢
        clear hgd GG T1 A1 K1 X1 C1 S1 M1 N1 BL1
        generalize w1.alloc _ = w2 at T2 A2 K2 X2 C2 S2 M2 N2 L2 D2 BL2 ⊢
        refine hK.out _ _ S2.out ?_
        clear hK K
        try simp only [Act.put, List.setIfInBounds_toArray, List.set_cons_zero, List.set_cons_succ]
        refine restS_lone (i := 9) rfl (by kernel_rfl) (by rfl) (fun K hK => ?_)
        go_simp
        have hcall := KP.tag w2 G F1 st1 (i + 1) Ak nk ck key (some ⟨gb, 0, none⟩) 1 1 [X] T2.out.p HNm1.out (by omega) (T2.out.besP K2.out HKl.out hkc) (by omega) BL2.out (by omega) (by rw [show [X].flatten = X by simp]; rw [HXl.out]; omega)
        rw [show [X].flatten = X by simp, ← HE1.out, ← HSst2.out] at hcall
        refine hcall.mono ?_
        rintro e w3 ⟨rfl, F3, hO, hF', hC⟩
        have T3 := Lib.hid (T2.out.stepP KP.toKept KR.toKept hO hF' hC)
        have A3 := Lib.hid (A2.out.stepP hF' hC)
        have C3 := Lib.hid (Below.trans C2.out (ch_below hC T2.out.pB T2.out.bw))
        have K3 := Lib.hid (K2.out.below (ch_below hC T2.out.pB T2.out.bw))
        have X3 := Lib.hid (X2.out.below (ch_below hC T2.out.pB T2.out.bw))
        have S3 := Lib.hid (T3.out.fx A3.out)
        have M3 := Lib.hid (show Loc w3 B F3 F2 gs ∧ gs ≠ P ∧ ba ≠ gs from ⟨M2.out.1.stepP hF' hC.size, M2.out.2⟩)
        have N3 := Lib.hid (N2.out.ch hC M2.out.1.2.1)
        have L3 := Lib.hid (show Loc w3 B F3 F2 gd ∧ gd ≠ P ∧ ba ≠ gd from ⟨L2.out.1.stepP hF' hC.size, L2.out.2⟩)
        have D3 := Lib.hid (D2.out.ch hC L2.out.1.2.1)
        clear hO hF' hC
        clear BL2 hcall T2 A2 K2 X2 C2 S2 M2 N2 L2 D2
        refine hK.out _ _ S3.out ?_
        clear hK K
        try simp only [Act.put, List.setIfInBounds_toArray, List.set_cons_zero, List.set_cons_succ]

      case' q2 =>
        go_simp
        rw [HZ32.out]
        have GG := Lib.hid (alloc_below w0 (.cells (bvs z32).toArray 51))
        have T1 := Lib.hid (T0.out.grow KP.toKept KR.toKept GG.out)
        have A1 := Lib.hid (A0.out.grow GG.out)
        have K1 := Lib.hid (K0.out.below (Below.mono GG.out T0.out.bw))
        have X1 := Lib.hid (X0.out.below (Below.mono GG.out T0.out.bw))
        have C1 := Lib.hid (Below.trans C0.out (Below.mono GG.out T0.out.bw))
        have S1 := Lib.hid (T1.out.fx A1.out)
        have M1 := Lib.hid (show Loc _ B F1 F2 gs ∧ gs ≠ P ∧ ba ≠ gs from ⟨M0.out.1.grow GG.out.size, M0.out.2⟩)
        have N1 := Lib.hid (N0.out.grow GG.out)
        have L1 := Lib.hid (show Loc (w0.alloc (.cells (bvs z32).toArray 51)) B F1 F2 w0.heap.size ∧ w0.heap.size ≠ P ∧ ba ≠ w0.heap.size from ⟨(T0.out.locNew KP.toKept KR.toKept _).1, (T0.out.locNew KP.toKept KR.toKept (.cells (bvs z32).toArray 51)).2, fun e => by have := A0.out.loc.1; omega⟩)
        have D1 := Lib.hid (Ba.new w0 51 z32)
        have VE := Lib.hid (show gs ≠ w0.heap.size from fun e => by have := M0.out.1.1; omega)
        obtain ⟨gd, hgd⟩ : ∃ g, g = w0.heap.size := ⟨_, rfl⟩
        rw [← hgd] at L1 D1 VE ⊢
        clear hgd GG T0 A0 K0 X0 C0 S0 M0 N0
        generalize w0.alloc _ = w1 at T1 A1 K1 X1 C1 S1 M1 N1 L1 D1 ⊢
        refine hK.out _ _ S1.out ?_
        clear hK K
        try simp only [Act.put, List.setIfInBounds_toArray, List.set_cons_zero, List.set_cons_succ]
        refine restS_lone (i := 8) rfl (by kernel_rfl) (by rfl) (fun K hK => ?_)
        go_simp
        have GG := Lib.hid (alloc_below w1 (.cells #[.slice Ax1 nx cx] 22))
        have T2 := Lib.hid (T1.out.grow KP.toKept KR.toKept GG.out)
        have A2 := Lib.hid (A1.out.grow GG.out)
        have K2 := Lib.hid (K1.out.below (Below.mono GG.out T1.out.bw))
        have X2 := Lib.hid (X1.out.below (Below.mono GG.out T1.out.bw))
        have C2 := Lib.hid (Below.trans C1.out (Below.mono GG.out T1.out.bw))
        have S2 := Lib.hid (T2.out.fx A2.out)
        have M2 := Lib.hid (show Loc _ B F1 F2 gs ∧ gs ≠ P ∧ ba ≠ gs from ⟨M1.out.1.grow GG.out.size, M1.out.2⟩)
        have N2 := Lib.hid (N1.out.grow GG.out)
        have L2 := Lib.hid (show Loc _ B F1 F2 gd ∧ gd ≠ P ∧ ba ≠ gd from ⟨L1.out.1.grow GG.out.size, L1.out.2⟩)
        have D2 := Lib.hid (D1.out.grow GG.out)
        have BL2 := Lib.hid (besL_one KP.toKept T1.out.p (T1.out.besP X1.out HXl.out hxc))
        obtain ⟨gb, hgb⟩ : ∃ g, g = w1.heap.size := ⟨_, rfl⟩
        rw [← hgb] at BL2 ⊢
        clear hgb GG T1 A1 K1 X1 C1 S1 M1 N1 L1 D1
        generalize w1.alloc _ = w2 at T2 A2 K2 X2 C2 S2 M2 N2 L2 D2 BL2 ⊢
        refine hK.out _ _ S2.out ?_
        clear hK K
        try simp only [Act.put, List.setIfInBounds_toArray, List.set_cons_zero, List.set_cons_succ]
        refine restS_lone (i := 9) rfl (by kernel_rfl) (by rfl) (fun K hK => ?_)
        go_simp
        have hcall := KP.tag w2 G F1 st1 (i + 1) Ak nk ck key (some ⟨gb, 0, none⟩) 1 1 [X] T2.out.p HNm1.out (by omega) (T2.out.besP K2.out HKl.out hkc) (by omega) BL2.out (by omega) (by rw [show [X].flatten = X by simp]; rw [HXl.out]; omega)
        rw [show [X].flatten = X by simp, ← HE1.out, ← HSst2.out] at hcall
        refine hcall.mono ?_
        rintro e w3 ⟨rfl, F3, hO, hF', hC⟩
        have T3 := Lib.hid (T2.out.stepP KP.toKept KR.toKept hO hF' hC)
        have A3 := Lib.hid (A2.out.stepP hF' hC)
        have C3 := Lib.hid (Below.trans C2.out (ch_below hC T2.out.pB T2.out.bw))
        have K3 := Lib.hid (K2.out.below (ch_below hC T2.out.pB T2.out.bw))
        have X3 := Lib.hid (X2.out.below (ch_below hC T2.out.pB T2.out.bw))
        have S3 := Lib.hid (T3.out.fx A3.out)
        have M3 := Lib.hid (show Loc w3 B F3 F2 gs ∧ gs ≠ P ∧ ba ≠ gs from ⟨M2.out.1.stepP hF' hC.size, M2.out.2⟩)
        have N3 := Lib.hid (N2.out.ch hC M2.out.1.2.1)
        have L3 := Lib.hid (show Loc w3 B F3 F2 gd ∧ gd ≠ P ∧ ba ≠ gd from ⟨L2.out.1.stepP hF' hC.size, L2.out.2⟩)
        have D3 := Lib.hid (D2.out.ch hC L2.out.1.2.1)
        clear hO hF' hC
        clear BL2 hcall T2 A2 K2 X2 C2 S2 M2 N2 L2 D2
        refine hK.out _ _ S3.out ?_
        clear hK K
        try simp only [Act.put, List.setIfInBounds_toArray, List.set_cons_zero, List.set_cons_succ]

      all_goals
        refine restS_lone (i := 11) rfl (by kernel_rfl) (by rfl) (fun K hK => ?_)
        have T4 := Lib.hid (T3.out.row KP.toKept KR.toKept L3.out.1 L3.out.2.1 (bvs E1).toArray)
        have A4 := Lib.hid (A3.out.row L3.out.2.2 (bvs E1).toArray)
        have D4 := Lib.hid (D3.out.row E1)
        have L4 := Lib.hid (show Loc (w3.setRow gd (bvs E1).toArray) B F3 F2 gd from L3.out.1.grow (by simp [World.setRow]))
        have C4 := Lib.hid (below_setRow C3.out L3.out.1.2.2.2 (bvs E1).toArray)
        have K4 := Lib.hid (K3.out.below (below_setRow (Below.refl B w3) L3.out.1.2.2.2 (bvs E1).toArray))
        have X4 := Lib.hid (X3.out.below (below_setRow (Below.refl B w3) L3.out.1.2.2.2 (bvs E1).toArray))
        have M4 := Lib.hid (show Loc (w3.setRow gd (bvs E1).toArray) B F3 F2 gs from M3.out.1.grow (by simp [World.setRow]))
        have N4 := Lib.hid (show Ba (w3.setRow gd (bvs E1).toArray) gs _ _ from (setRow_other VE.out).trans N3.out)
        refine wp_store_ba i32a (.tmp 7) (.tmp 54) rfl rfl (M := E1) rfl (L := z32) D3.out rfl HE1l.out (hK.out _ _ (T4.out.fx A4.out) ?_)
        clear hK K
        try simp only [Act.put, List.setIfInBounds_toArray, List.set_cons_zero, List.set_cons_succ]
        refine restS_done (by kernel_rfl) ?_
        exact Hkey2.out gb gd _ F3 ⟨⟨T4.out, A4.out, K4.out, X4.out, C4.out, ⟨L4.out, L3.out.2⟩, D4.out⟩, ⟨M4.out, M3.out.2⟩, N4.out⟩

    · intro gb2 gd wC F3 hf
      obtain ⟨⟨h5T, h5A, h5K, h5X, h5C, h5L, h5D⟩, h5M, h5N⟩ := hf
      clear hs1 hs2 hv64 hv32 hz64s hz32s hdiv
      have TC := Lib.hid h5T
      have AC := Lib.hid h5A
      have KC := Lib.hid h5K
      have XC := Lib.hid h5X
      have CC := Lib.hid h5C
      have LC := Lib.hid h5L.1
      have DC := Lib.hid h5D
      have MC := Lib.hid h5M.1
      have NC := Lib.hid h5N
      clear h5T h5A h5K h5X h5C h5L h5D h5M h5N
      obtain ⟨SD, hSD⟩ : ∃ S : ByteArray, S = ⟨D1.toArray⟩ := ⟨_, rfl⟩
      obtain ⟨SE, hSE⟩ : ∃ S : ByteArray, S = ⟨E1.toArray⟩ := ⟨_, rfl⟩
      have HSD := Lib.hid hSD
      have HSE := Lib.hid hSE
      clear hSD hSE
      have HCv := Lib.hid (show ∀ v, Ba v gs 43 D1 → Ba v gd 51 E1 → (convert 22 9 (.slice (some ⟨gs, 0, none⟩) 64 64)).run Tryz.prog v = .ok (.string SD) v ∧ (convert 22 9 (.slice (some ⟨gd, 0, none⟩) 32 32)).run Tryz.prog v = .ok (.string SE) v from fun v h1 h2 => by
        have e1 := conv h1.rd 64
        have e2 := conv h2.rd 32
        rw [HD1l.out] at e1
        rw [HE1l.out] at e2
        exact ⟨by rw [HSD.out]; exact e1, by rw [HSE.out]; exact e2⟩)
      have hsl1 := fun V : World => cut64 V gs
      have hsl2 := fun V : World => cut32 V gd
      go_wp2_with fail
      try simp only [Act.put, List.setIfInBounds_toArray, List.set_cons_zero, List.set_cons_succ]
      refine restS_begin (fun v : World => Fx P G R ba n number (.slice Ak nk ck) (.slice Ax1 nx cx) v ∧ (convert 22 9 (.slice (some ⟨gs, 0, none⟩) 64 64)).run Tryz.prog v = .ok (.string SD) v ∧ (convert 22 9 (.slice (some ⟨gd, 0, none⟩) 32 32)).run Tryz.prog v = .ok (.string SE) v) (by kernel_rfl) ?_
      have GG := Lib.hid (show Grown wC wC.drew from (Below.refl _ wC).drew)
      have T0 := Lib.hid (TC.out.grow KP.toKept KR.toKept GG.out)
      have A0 := Lib.hid (AC.out.grow GG.out)
      have K0 := Lib.hid (show Rd wC.drew B Ak key from KC.out)
      have X0 := Lib.hid (show Rd wC.drew B Ax1 X from XC.out)
      have C0 := Lib.hid (show Below B w wC.drew from CC.out.drew)
      have M0 := Lib.hid (show Loc wC.drew B F3 F2 gs from MC.out)
      have L0 := Lib.hid (show Loc wC.drew B F3 F2 gd from LC.out)
      have N0 := Lib.hid (show Ba wC.drew gs 43 D1 from NC.out)
      have D0 := Lib.hid (show Ba wC.drew gd 51 E1 from DC.out)
      clear TC AC KC XC CC MC LC NC DC GG
      generalize wC.drew = w0 at T0 A0 K0 X0 C0 M0 L0 N0 D0 ⊢
      have S0 := Lib.hid (show Fx P G R ba n number (.slice Ak nk ck) (.slice Ax1 nx cx) w0 ∧ (convert 22 9 (.slice (some ⟨gs, 0, none⟩) 64 64)).run Tryz.prog w0 = .ok (.string SD) w0 ∧ (convert 22 9 (.slice (some ⟨gd, 0, none⟩) 32 32)).run Tryz.prog w0 = .ok (.string SE) w0 from ⟨T0.out.fx A0.out, HCv.out _ N0.out D0.out⟩)
      refine restS_take (i := 0) S0.out rfl (by kernel_rfl) (by kernel_rfl) (by kernel_rfl) (by rfl) (fun v hv => by obtain ⟨⟨v1, v2, v3, v4, v5, v6⟩, v7, v8⟩ := hv; go_simp; try with_reducible rfl) ?_
      try simp only [Act.put, List.setIfInBounds_toArray, List.set_cons_zero, List.set_cons_succ]
      refine restS_take (i := 1) S0.out rfl (by kernel_rfl) (by kernel_rfl) (by kernel_rfl) (by rfl) (fun v hv => by obtain ⟨⟨v1, v2, v3, v4, v5, v6⟩, v7, v8⟩ := hv; go_simp; try with_reducible rfl) ?_
      try simp only [Act.put, List.setIfInBounds_toArray, List.set_cons_zero, List.set_cons_succ]
      refine restS_take (i := 2) S0.out rfl (by kernel_rfl) (by kernel_rfl) (by kernel_rfl) (by rfl) (fun v hv => by obtain ⟨⟨v1, v2, v3, v4, v5, v6⟩, v7, v8⟩ := hv; go_simp; try with_reducible rfl) ?_
      try simp only [Act.put, List.setIfInBounds_toArray, List.set_cons_zero, List.set_cons_succ]
      refine restS_take (i := 3) S0.out rfl (by kernel_rfl) (by kernel_rfl) (by kernel_rfl) (by rfl) (fun v hv => by obtain ⟨⟨v1, v2, v3, v4, v5, v6⟩, v7, v8⟩ := hv; go_simp; try with_reducible rfl) ?_
      try simp only [Act.put, List.setIfInBounds_toArray, List.set_cons_zero, List.set_cons_succ]
      refine restS_take (i := 4) S0.out rfl (by kernel_rfl) (by kernel_rfl) (by kernel_rfl) (by rfl) (fun v hv => by obtain ⟨⟨v1, v2, v3, v4, v5, v6⟩, v7, v8⟩ := hv; go_simp; try with_reducible rfl) ?_
      try simp only [Act.put, List.setIfInBounds_toArray, List.set_cons_zero, List.set_cons_succ]
      refine restS_take (i := 5) S0.out rfl (by kernel_rfl) (by kernel_rfl) (by kernel_rfl) (by rfl) (fun v hv => by obtain ⟨⟨v1, v2, v3, v4, v5, v6⟩, v7, v8⟩ := hv; go_simp; try with_reducible rfl) ?_
      try simp only [Act.put, List.setIfInBounds_toArray, List.set_cons_zero, List.set_cons_succ]
      refine restS_take (i := 6) S0.out rfl (by kernel_rfl) (by kernel_rfl) (by kernel_rfl) (by rfl) (fun v hv => by obtain ⟨⟨v1, v2, v3, v4, v5, v6⟩, v7, v8⟩ := hv; go_simp; try with_reducible rfl) ?_
      try simp only [Act.put, List.setIfInBounds_toArray, List.set_cons_zero, List.set_cons_succ]
      refine restS_take (i := 7) S0.out rfl (by kernel_rfl) (by kernel_rfl) (by kernel_rfl) (by rfl) (fun v hv => by obtain ⟨⟨v1, v2, v3, v4, v5, v6⟩, v7, v8⟩ := hv; go_simp; try with_reducible rfl) ?_
      try simp only [Act.put, List.setIfInBounds_toArray, List.set_cons_zero, List.set_cons_succ]
      refine restS_take (i := 8) S0.out rfl (by kernel_rfl) (by kernel_rfl) (by kernel_rfl) (by rfl) (fun v hv => by obtain ⟨⟨v1, v2, v3, v4, v5, v6⟩, v7, v8⟩ := hv; go_simp; try with_reducible rfl) ?_
      try simp only [Act.put, List.setIfInBounds_toArray, List.set_cons_zero, List.set_cons_succ]
      refine restS_take (i := 9) S0.out rfl (by kernel_rfl) (by kernel_rfl) (by kernel_rfl) (by rfl) (fun v hv => by obtain ⟨⟨v1, v2, v3, v4, v5, v6⟩, v7, v8⟩ := hv; go_simp; try with_reducible rfl) ?_
      try simp only [Act.put, List.setIfInBounds_toArray, List.set_cons_zero, List.set_cons_succ]
      refine restS_lone (i := 10) rfl (by kernel_rfl) (by rfl) (fun K hK => ?_)
      go_simp
      refine (KR.mac w0 R F2 st i Ak nk ck key Ax1 nx cx X T0.out.r HNm0.out (by omega) (T0.out.besR K0.out HKl.out hkc) (by omega) (T0.out.besR X0.out HXl.out hxc) (by omega)).mono ?_
      rintro e w1 ⟨rfl, F4, hO, hF5, hC⟩
      rw [← HSst1.out] at hO
      have T1 := Lib.hid (T0.out.stepR KP.toKept KR.toKept hO hF5 hC)
      have A1 := Lib.hid (A0.out.stepR hF5 hC)
      have C1 := Lib.hid (Below.trans C0.out (ch_below hC T0.out.rB T0.out.bw))
      have K1 := Lib.hid (K0.out.below (ch_below hC T0.out.rB T0.out.bw))
      have X1 := Lib.hid (X0.out.below (ch_below hC T0.out.rB T0.out.bw))
      have M1 := Lib.hid (show Loc w1 B F3 F4 gs from M0.out.stepR hF5 hC.size)
      have L1 := Lib.hid (show Loc w1 B F3 F4 gd from L0.out.stepR hF5 hC.size)
      have N1 := Lib.hid (N0.out.ch hC M0.out.2.2.1)
      have D1 := Lib.hid (D0.out.ch hC L0.out.2.2.1)
      have S1 := Lib.hid (show Fx P G R ba n number (.slice Ak nk ck) (.slice Ax1 nx cx) w1 ∧ (convert 22 9 (.slice (some ⟨gs, 0, none⟩) 64 64)).run Tryz.prog w1 = .ok (.string SD) w1 ∧ (convert 22 9 (.slice (some ⟨gd, 0, none⟩) 32 32)).run Tryz.prog w1 = .ok (.string SE) w1 from ⟨T1.out.fx A1.out, HCv.out _ N1.out D1.out⟩)
      clear hO hF5 hC T0 A0 C0 K0 X0 M0 L0 N0 D0 S0
      rw [← HD1.out, ← HSD.out]
      refine hK.out _ _ S1.out ?_
      clear hK K
      try simp only [Act.put, List.setIfInBounds_toArray, List.set_cons_zero, List.set_cons_succ]
      refine restS_take (i := 11) S1.out rfl (by kernel_rfl) (by kernel_rfl) (by kernel_rfl) (by rfl) (fun v hv => by obtain ⟨⟨v1, v2, v3, v4, v5, v6⟩, v7, v8⟩ := hv; go_simp; try with_reducible rfl) ?_
      try simp only [Act.put, List.setIfInBounds_toArray, List.set_cons_zero, List.set_cons_succ]
      refine restS_take (i := 12) S1.out rfl (by kernel_rfl) (by kernel_rfl) (by kernel_rfl) (by rfl) (fun v hv => by obtain ⟨⟨v1, v2, v3, v4, v5, v6⟩, v7, v8⟩ := hv; go_simp; try with_reducible rfl) ?_
      try simp only [Act.put, List.setIfInBounds_toArray, List.set_cons_zero, List.set_cons_succ]
      refine restS_take (i := 13) S1.out rfl (by kernel_rfl) (by kernel_rfl) (by kernel_rfl) (by rfl) (fun v hv => by obtain ⟨⟨v1, v2, v3, v4, v5, v6⟩, v7, v8⟩ := hv; go_simp; try with_reducible rfl) ?_
      try simp only [Act.put, List.setIfInBounds_toArray, List.set_cons_zero, List.set_cons_succ]
      refine restS_take (i := 14) S1.out rfl (by kernel_rfl) (by kernel_rfl) (by kernel_rfl) (by rfl) (fun v hv => by obtain ⟨⟨v1, v2, v3, v4, v5, v6⟩, v7, v8⟩ := hv; go_simp; try with_reducible rfl) ?_
      try simp only [Act.put, List.setIfInBounds_toArray, List.set_cons_zero, List.set_cons_succ]
      refine restS_take (i := 15) S1.out rfl (by kernel_rfl) (by kernel_rfl) (by kernel_rfl) (by rfl) (fun v hv => by obtain ⟨⟨v1, v2, v3, v4, v5, v6⟩, v7, v8⟩ := hv; go_simp; try with_reducible rfl) ?_
      try simp only [Act.put, List.setIfInBounds_toArray, List.set_cons_zero, List.set_cons_succ]
      refine restS_take (i := 16) S1.out rfl (by kernel_rfl) (by kernel_rfl) (by kernel_rfl) (by rfl) (fun v hv => by obtain ⟨⟨v1, v2, v3, v4, v5, v6⟩, v7, v8⟩ := hv; go_simp; try with_reducible rfl) ?_
      try simp only [Act.put, List.setIfInBounds_toArray, List.set_cons_zero, List.set_cons_succ]
      refine restS_take (i := 17) S1.out rfl (by kernel_rfl) (by kernel_rfl) (by kernel_rfl) (by rfl) (fun v hv => by obtain ⟨⟨v1, v2, v3, v4, v5, v6⟩, v7, v8⟩ := hv; go_simp; try with_reducible rfl) ?_
      try simp only [Act.put, List.setIfInBounds_toArray, List.set_cons_zero, List.set_cons_succ]
      refine restS_take (i := 18) S1.out rfl (by kernel_rfl) (by kernel_rfl) (by kernel_rfl) (by rfl) (fun v hv => by obtain ⟨⟨v1, v2, v3, v4, v5, v6⟩, v7, v8⟩ := hv; go_simp; try with_reducible rfl) ?_
      try simp only [Act.put, List.setIfInBounds_toArray, List.set_cons_zero, List.set_cons_succ]
      refine restS_take (i := 19) S1.out rfl (by kernel_rfl) (by kernel_rfl) (by kernel_rfl) (by rfl) (fun v hv => by obtain ⟨⟨v1, v2, v3, v4, v5, v6⟩, v7, v8⟩ := hv; go_simp; try with_reducible rfl) ?_
      try simp only [Act.put, List.setIfInBounds_toArray, List.set_cons_zero, List.set_cons_succ]
      refine restS_take (i := 20) S1.out rfl (by kernel_rfl) (by kernel_rfl) (by kernel_rfl) (by rfl) (fun v hv => by obtain ⟨⟨v1, v2, v3, v4, v5, v6⟩, v7, v8⟩ := hv; go_simp; try with_reducible rfl) ?_
      try simp only [Act.put, List.setIfInBounds_toArray, List.set_cons_zero, List.set_cons_succ]
      refine restS_take (i := 21) S1.out rfl (by kernel_rfl) (by kernel_rfl) (by kernel_rfl) (by rfl) (fun v hv => by obtain ⟨⟨v1, v2, v3, v4, v5, v6⟩, v7, v8⟩ := hv; go_simp; try with_reducible rfl) ?_
      try simp only [Act.put, List.setIfInBounds_toArray, List.set_cons_zero, List.set_cons_succ]
      refine restS_take (i := 22) S1.out rfl (by kernel_rfl) (by kernel_rfl) (by kernel_rfl) (by rfl) (fun v hv => by obtain ⟨⟨v1, v2, v3, v4, v5, v6⟩, v7, v8⟩ := hv; go_simp; try with_reducible rfl) ?_
      try simp only [Act.put, List.setIfInBounds_toArray, List.set_cons_zero, List.set_cons_succ]
      refine restS_lone (i := 23) rfl (by kernel_rfl) (by rfl) (fun K hK => ?_)
      go_simp
      refine (KR.tag w1 R F4 st1 (i + 1) Ak nk ck key Ax1 nx cx X T1.out.r HNm1.out (by omega) (T1.out.besR K1.out HKl.out hkc) (by omega) (T1.out.besR X1.out HXl.out hxc) (by omega)).mono ?_
      rintro e w2 ⟨rfl, F5, hO, hF5, hC⟩
      rw [← HSst2.out] at hO
      have T2 := Lib.hid (T1.out.stepR KP.toKept KR.toKept hO hF5 hC)
      have A2 := Lib.hid (A1.out.stepR hF5 hC)
      have C2 := Lib.hid (Below.trans C1.out (ch_below hC T1.out.rB T1.out.bw))
      have K2 := Lib.hid (K1.out.below (ch_below hC T1.out.rB T1.out.bw))
      have X2 := Lib.hid (X1.out.below (ch_below hC T1.out.rB T1.out.bw))
      have M2 := Lib.hid (show Loc w2 B F3 F5 gs from M1.out.stepR hF5 hC.size)
      have L2 := Lib.hid (show Loc w2 B F3 F5 gd from L1.out.stepR hF5 hC.size)
      have N2 := Lib.hid (N1.out.ch hC M1.out.2.2.1)
      have D2 := Lib.hid (D1.out.ch hC L1.out.2.2.1)
      have S2 := Lib.hid (show Fx P G R ba n number (.slice Ak nk ck) (.slice Ax1 nx cx) w2 ∧ (convert 22 9 (.slice (some ⟨gs, 0, none⟩) 64 64)).run Tryz.prog w2 = .ok (.string SD) w2 ∧ (convert 22 9 (.slice (some ⟨gd, 0, none⟩) 32 32)).run Tryz.prog w2 = .ok (.string SE) w2 from ⟨T2.out.fx A2.out, HCv.out _ N2.out D2.out⟩)
      clear hO hF5 hC T1 A1 C1 K1 X1 M1 L1 N1 D1 S1
      rw [← HE1.out, ← HSE.out]
      refine hK.out _ _ S2.out ?_
      clear hK K
      try simp only [Act.put, List.setIfInBounds_toArray, List.set_cons_zero, List.set_cons_succ]
      refine restS_take (i := 24) S2.out rfl (by kernel_rfl) (by kernel_rfl) (by kernel_rfl) (by rfl) (fun v hv => by obtain ⟨⟨v1, v2, v3, v4, v5, v6⟩, v7, v8⟩ := hv; go_simp; try with_reducible rfl) ?_
      try simp only [Act.put, List.setIfInBounds_toArray, List.set_cons_zero, List.set_cons_succ]
      refine restS_take (i := 25) S2.out rfl (by kernel_rfl) (by kernel_rfl) (by kernel_rfl) (by rfl) (fun v hv => by obtain ⟨⟨v1, v2, v3, v4, v5, v6⟩, v7, v8⟩ := hv; go_simp; try with_reducible rfl) ?_
      try simp only [Act.put, List.setIfInBounds_toArray, List.set_cons_zero, List.set_cons_succ]
      refine restS_take (i := 26) S2.out rfl (by kernel_rfl) (by kernel_rfl) (by kernel_rfl) (by rfl) (fun v hv => by obtain ⟨⟨v1, v2, v3, v4, v5, v6⟩, v7, v8⟩ := hv; go_simp; try with_reducible rfl) ?_
      try simp only [Act.put, List.setIfInBounds_toArray, List.set_cons_zero, List.set_cons_succ]
      refine restS_done (by kernel_rfl) ?_
      go_wp2_with fail
      go_ret
      exact ⟨st2, M.num_up _ _ _ HNm2.out (by omega) (by omega), by simp, F3, F5, T2.out, C2.out⟩
end Go.Proofs.YtjklgmhaebjjaaaGreat.S12
namespace Go.Proofs.YtjklgmhaebjjaaaGreat.S12
open S11
open Go.RowKit
set_option linter.unusedVariables false
set_option linter.unusedSimpArgs false

/-- Is an act small? -/
def smallB (nk nx : Nat) (n : Int) : Bool := decide (nk ≤ 100 ∧ (nx ≤ 64 ∨ 1024 < nx ∧ nx < 1100) ∧ (n ≤ 200 ∨ 16320 < n))
theorem does_any {M : Mod} {O Q : Ob M} {B P G R : Nat} (KP : ProgOk M B O) (KR : RefOk M B Q) (w : World) (F F2 : Nat → Prop) (st : M.σ) (i : Nat) (h : Two M O Q B P G R w F F2 st st) (hi : M.num st i) (hi2 : i ≤ 190) (kind n number : Int) (Ak : Option Addr) (nk ck : Nat) (key : List UInt8) (Ax1 : Option Addr) (nx cx : Nat) (X : List UInt8) (hk : Rd w B Ak key) (hkl : key.length = nk) (hkc : nk ≤ ck) (hx : Rd w B Ax1 X) (hxl : X.length = nx) (hxc : nx ≤ cx) (hsm : smallB nk nx n = true)
    (hn1 : -9223372036854775808 ≤ n) (hn2 : n < 9223372036854775808) (hm1 : -9223372036854775808 ≤ number) (hm2 : number < 9223372036854775808) :
    Calls Tryz.prog 8 #[.pointer (some ⟨P, 0, none⟩), .agg #[.int .i64 kind, .int .i64 n, .int .i64 number, .slice Ak nk ck, .slice Ax1 nx cx]] w fun e w' => ∃ st', M.num st' (i + 5) ∧ Does M O Q B P G R w st' e w' := by
  obtain ⟨hk2, hxs, hns⟩ := of_decide_eq_true hsm
  have hx2 : nx ≤ 1100 := by omega
  have up : M.num st (i + 5) := M.num_up _ _ _ hi (by omega) (by omega)
  by_cases k0 : kind = 0
  · subst k0
    exact does_mac KP KR w F F2 st i h hi hi2 n number Ak nk ck key Ax1 nx cx X hk hkl hkc hk2 hx hxl hxc hx2
  by_cases k1 : kind = 1
  · subst k1
    by_cases hn : n < 0 ∨ 16320 < n
    · exact (does_deriveNo KP KR w F F2 st i h hi hi2 n number Ak nk ck key Ax1 nx cx X hk hkl hkc hk2 hx hxl hxc hx2 hn1 hn2 hn).mono fun e w' hd => ⟨st, up, hd⟩
    · exact does_derive KP KR w F F2 st i h hi hi2 n number Ak nk ck key Ax1 nx cx X hk hkl hkc hk2 hx hxl hxc hx2 (by omega) (by omega)
  by_cases k2 : kind = 2
  · subst k2
    by_cases hn : nk = 32
    · exact does_block KP KR w F F2 st i h hi hi2 n number Ak nk ck key Ax1 nx cx X hk hkl hkc hk2 hx hxl hxc hx2 hn
    · exact (does_blockNo KP KR w F F2 st i h hi hi2 n number Ak nk ck key Ax1 nx cx X hk hkl hkc hk2 hx hxl hxc hx2 hn).mono fun e w' hd => ⟨st, up, hd⟩
  by_cases k3 : kind = 3
  · subst k3
    by_cases hr : rightB nk number nx = true
    · obtain ⟨r1, r2, r3, r4, r5⟩ := of_decide_eq_true hr
      exact does_unit KP KR w F F2 st i h hi hi2 n number Ak nk ck key Ax1 nx cx X hk hkl hkc hk2 hx hxl hxc hx2 r2 hm2 r1 r3 (by omega) r5
    · exact (does_unitNo KP KR w F F2 st i h hi hi2 n number Ak nk ck key Ax1 nx cx X hk hkl hkc hk2 hx hxl hxc hx2 hm1 hm2 (by simpa using hr)).mono fun e w' hd => ⟨st, up, hd⟩
  exact (does_nonce KP KR w F F2 st i h hi hi2 kind n number k0 k1 k2 k3 _ _ rfl rfl).mono fun e w' hd => ⟨_, M.num_up _ _ _ (M.num_nonce _ _ hi (by omega)) (by omega) (by omega), hd⟩
end Go.Proofs.YtjklgmhaebjjaaaGreat.S12
