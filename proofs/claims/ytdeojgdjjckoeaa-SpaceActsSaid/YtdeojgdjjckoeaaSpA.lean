/-
  SpaceActs out of what is asked of the program's spaces.
-/
import Derived.Test.YtdeojgdjjckoeaaSpB
namespace Go.Proofs.Ytdeojgdjjckoeaa.S15
open Cf
open Go.RowKit
set_option linter.unusedVariables false
set_option linter.unusedSimpArgs false
/-- The act's block, cell by cell. -/
def SA (a : Nat) (k : Int) (Aa : Option Addr) (na ca : Nat) (v : World) : Prop := v.cell? ⟨a, 0, none⟩ = some (.int .i64 k) ∧ v.cell? ⟨a, 1, none⟩ = some (.slice Aa na ca)
abbrev acO (k : Int) (Aa : Option Addr) (na ca : Nat) : Obj := .cells #[.int .i64 k, .slice Aa na ca] 34 (0, 0)
theorem sa_of {a : Nat} {k : Int} {Aa : Option Addr} {na ca : Nat} {v : World} {F F2 : Nat → Prop} (h : Bs v F F2 a (acO k Aa na ca)) : SA a k Aa na ca v :=
  ⟨cell_of_row v a 0 _ _ _ h.1, cell_of_row v a 1 _ _ _ h.1⟩
section
variable {D : STab}
set_option maxHeartbeats 16000000 in
set_option maxRecDepth 20000 in
theorem sacts_walk (K : SpaceOk D) (f l : Int) (hf : Ir f) (hl : Ir l) (DA : Option Addr) (m dc : Nat) (acts : List Ac) (w : World) (hD : RdAc w w.heap.size DA acts) (hm : acts.length = m) (hmc : m ≤ dc) :
    Calls Try.prog 3 #[.int .i64 f, .int .i64 l, .slice DA m dc] w fun e w' => e = .returned (.bool true) ∧ Below w.heap.size w w' := by
  have KK := Lib.hid K
  have HD := Lib.hid hD
  have HM := Lib.hid hm
  clear K hD hm
  by_cases h2 : 60 < m
  · have b2 : (m : Int) > 60 := by omega
    go_enter Try.func3, Try.ntmps3
    go_wp2_with fail
    refine (awakeSp KK.out w).mono ?_
    rintro e w1 ⟨rfl, hg1⟩
    have G1 := Lib.hid hg1
    clear hg1
    go_wp2_with fail
    refine (awakeSp KK.out w1).mono ?_
    rintro e w2 ⟨rfl, hg2⟩
    have HG := Lib.hid (Grown.trans G1.out hg2)
    clear hg2
    go_wp2
    go_ret
    exact ⟨rfl, HG.out⟩
  have b2 : ¬ (m : Int) > 60 := by omega
  have hm60 : m ≤ 60 := by omega
  clear h2
  go_enter Try.func3, Try.ntmps3
  go_wp2_with fail
  refine (awakeSp KK.out w).mono ?_
  rintro e w1 ⟨rfl, hg1⟩
  have G1 := Lib.hid hg1
  clear hg1
  go_wp2_with fail
  by_cases hr1 : f < 0
  · refine (KK.out.bad w1 f l hf hl (by omega)).mono ?_
    rintro e w2 ⟨rfl, hg2⟩
    have HG := Lib.hid (Grown.trans G1.out hg2)
    clear hg2
    go_wp2
    go_ret
    exact ⟨rfl, HG.out⟩
  by_cases hr2 : l ≤ f
  · refine (KK.out.bad w1 f l hf hl (by omega)).mono ?_
    rintro e w2 ⟨rfl, hg2⟩
    have HG := Lib.hid (Grown.trans G1.out hg2)
    clear hg2
    go_wp2
    go_ret
    exact ⟨rfl, HG.out⟩
  by_cases hr3 : l > 65536
  · refine (KK.out.bad w1 f l hf hl (by omega)).mono ?_
    rintro e w2 ⟨rfl, hg2⟩
    have HG := Lib.hid (Grown.trans G1.out hg2)
    clear hg2
    go_wp2
    go_ret
    exact ⟨rfl, HG.out⟩
  clear hf hl
  have hf0 : 0 ≤ f := by omega
  have hfl : f < l := by omega
  have hl1 : l ≤ 65536 := by omega
  refine (KK.out.new w1 f l hf0 hfl hl1).mono ?_
  rintro e w2 ⟨G, F, rfl, hd, hF, hg⟩
  have Z1 := Lib.hid (show SSince D w w2 G F (spNew f l) from ⟨hd, fun k hk => Nat.le_trans G1.out.size (hF k hk), Grown.trans G1.out hg⟩)
  have O1 := Lib.hid (spOk_new f l hf0 hfl hl1)
  have HF1 := Lib.hid (show spFree (spNew f l) = l - f by unfold spFree spNew; simp)
  have hwr : wrap64 (l - f) = l - f := by unfold wrap64; omega
  clear hd hF hg G1
  go_wp2_with fail
  refine (KK.out.free w2 G F _ Z1.out.1 O1.out).mono ?_
  rintro e w3 ⟨rfl, hg3⟩
  rw [HF1.out]
  have Z3 := Lib.hid (Z1.out.grow KK.out hg3)
  clear hg3 Z1
  by_cases h60 : l - f > 60
  · go_wp2
    go_ret
    exact ⟨rfl, Z3.out.2.2⟩
  go_wp2_with fail
  have T4 := Lib.hid (show Tw D w (w3.alloc (.cells #[.int .i64 f, .int .i64 l, .slice none 0 0, .slice none 0 0] 32)) G F (spNew f l) w3.heap.size (SvF w3.heap.size none none) (spNew f l) from {
    p := (Z3.out.grow KK.out (alloc_below w3 _)).1
    r := ⟨none, none, { bR := Z3.out.2.2.size, nu := fun x hx => by (cases hx), ng := fun x hx => by (cases hx), ug := fun x y hx hy => by (cases hx), ex := ⟨0, 0, heap_alloc_new w3 _, OwZ.nil _ _, OwZ.nil _ _⟩ }, rfl⟩
    pb := Z3.out.2.1
    ap := fun k hk hr => by
      have h1 := KK.out.foot w3 G F _ Z3.out.1 k hk
      rcases hr with e | ⟨x, hx, _⟩ | ⟨x, hx, _⟩
      · omega
      · cases hx
      · cases hx
    gr := Grown.trans Z3.out.2.2 (alloc_below w3 _) })
  obtain ⟨R, hR⟩ : ∃ R, R = w3.heap.size := ⟨_, rfl⟩
  rw [← hR] at T4 ⊢
  clear hR Z3 HF1 hwr
  generalize w3.alloc _ = w4 at T4 ⊢
  generalize SvF R none none = F2 at T4
  go_loopw [10] (fun v10 wr => ∃ (i : Nat) (F F2 : Nat → Prop) (s : Sp), v10 = .int .i64 (i : Int) ∧ i ≤ m ∧ Hid (SpOk s) ∧ Hid (s.first = f ∧ s.last = l) ∧ Hid (Tw D w wr G F s R F2 s)) (fun v10 _ => m - (intOf v10).toNat)
  case atStart => exact ⟨0, F, F2, _, rfl, Nat.zero_le _, O1.out, ⟨rfl, rfl⟩, T4.out⟩
  case round =>
    clear T4 O1 F F2
    obtain ⟨i, F, F2, s, rfl, hi, HO, HB, HZ⟩ := hrel
    by_cases hlt : i < m
    · have him : i < acts.length := by rw [HM.out]; exact hlt
      have bi : (i : Int) < (m : Int) := by omega
      obtain ⟨b, off, hDe, hbl, hall⟩ : ∃ b off, DA = some ⟨b, off, none⟩ ∧ b < w.heap.size ∧ _ := by
        rcases HD.out with h0 | ⟨b, off, h1, h2, h3⟩
        · rw [h0] at him; simp at him
        · exact ⟨b, off, h1, h2, h3 i him⟩
      obtain ⟨Aa, na, ca, d0, d1, ha1, ha2, ha3, ha4⟩ := hall
      obtain ⟨ac, hac⟩ : ∃ ac, ac = acts[i] := ⟨_, rfl⟩
      rw [← hac] at d0 ha1 ha3 ha4
      obtain ⟨k, at_⟩ := ac
      simp only at d0 ha1 ha3 ha4
      clear hac him
      obtain ⟨oc, hoc⟩ : ∃ oc, oc = off + i * 2 := ⟨_, rfl⟩
      have cg : ∀ j, wr.cell? ⟨b, j, none⟩ = w.cell? ⟨b, j, none⟩ := fun j => HZ.out.gr.cell (p := ⟨b, j, none⟩) hbl
      rw [← cg] at d0 d1
      have HA1 := Lib.hid ha1
      have HA3 := Lib.hid ha3
      have HA4 := Lib.hid ha4
      subst hDe
      clear cg ha1 ha3 ha4 hoc
      by_cases t1 : (na : Int) > 60
      · have HG := Lib.hid (Grown.trans HZ.out.gr (alloc_below wr (.cells #[.int .i64 k, .slice Aa na ca] 34)))
        go_wp2
        go_ret
        exact ⟨rfl, HG.out⟩
      have hna : na ≤ 60 := by omega
      have h60' : l - f ≤ 60 := by omega
      rcases (show k = 0 ∨ k = 1 ∨ k = 2 ∨ k = 3 ∨ k = 4 ∨ k = 5 ∨ (k ≠ 0 ∧ k ≠ 1 ∧ k ≠ 2 ∧ k ≠ 3 ∧ k ≠ 4 ∧ k ≠ 5) by omega) with rfl | rfl | rfl | rfl | rfl | rfl | ⟨n0, n1, n2, n3, n4, n5⟩
      · as_aux_lemma =>
          have ZA := Lib.hid (HZ.out.grow KK.out (alloc_below wr (.cells #[.int .i64 0, .slice Aa na ca] 34)))
          have BA := Lib.hid (show Bs (wr.alloc (.cells #[.int .i64 0, .slice Aa na ca] 34)) F F2 wr.heap.size (acO 0 Aa na ca) from Bs.new KK.out HZ.out _)
          have FS := Lib.hid (HO.out.few (by rw [HB.out.1, HB.out.2]; exact h60'))
          clear HZ
          go_wp2_with fail
          obtain ⟨a, ha⟩ : ∃ a, a = wr.heap.size := ⟨_, rfl⟩
          rw [← ha] at BA ⊢
          clear ha d0 d1
          generalize wr.alloc _ = va at ZA BA ⊢
          have OO := Lib.hid (ok_take HO.out)
          have LL := Lib.hid (show (spTake s).2.2.first = f ∧ (spTake s).2.2.last = l by rw [(ends_take s).1, (ends_take s).2]; exact HB.out)
          obtain ⟨s1, hs1⟩ : ∃ s1, s1 = (spTake s).2.2 := ⟨_, rfl⟩
          obtain ⟨n1, hn1⟩ : ∃ n1, n1 = (spTake s).1 := ⟨_, rfl⟩
          obtain ⟨er, her⟩ : ∃ er, er = (spTake s).2.1 := ⟨_, rfl⟩
          have HP := Lib.hid (KK.out.take va G F s ZA.out.p HO.out)
          have HR := Lib.hid (fun (v : World) (F2 : Nat → Prop) (h : RS w.heap.size v R F2 s) => rTake h FS.out.1)
          rw [← hs1] at OO LL
          rw [← hs1, ← hn1, ← her] at HP HR
          clear hs1 hn1 her
          refine HP.out.mono ?_
          rintro e v1 ⟨rfl, h1⟩
          obtain ⟨FP, hz, hb⟩ := ZA.out.prog h1
          have Z1 := Lib.hid hz
          have B1 := Lib.hid (hb _ _ BA.out)
          clear h1 hz hb ZA BA HP
          go_wp2_with fail
          refine (HR.out v1 F2 Z1.out.r).mono ?_
          rintro e v2 ⟨rfl, h2⟩
          obtain ⟨FR, hz, hb⟩ := Z1.out.ref KK.out h2
          have ZZ := Lib.hid hz
          have BZ := Lib.hid (hb _ _ B1.out)
          clear h2 hz hb Z1 B1 HR HO HB FS
          go_wp2_with fail
          generalize v2 = vz at ZZ BZ ⊢
          have FW := Lib.hid (OO.out.few (by rw [LL.out.1, LL.out.2]; exact h60'))
          obtain ⟨Au, Ag, hsv, _⟩ := ZZ.out.r
          obtain ⟨cu, cg, l1, l2, q0, q1, q2, q3, r1, r2⟩ := hsv.cells
          obtain ⟨nu, hnu⟩ : ∃ nu, nu = s1.used.length := ⟨_, rfl⟩
          rw [← hnu] at q2
          have HNU := Lib.hid hnu
          have hnu60 : nu ≤ 60 := by rw [hnu]; have := FW.out.2; omega
          have RV := Lib.hid (show ∀ v : World, Grown vz v → v.cell? ⟨R, 2, none⟩ = some (.slice Au nu cu) ∧ RdZ v v.heap.size Au s1.used from fun v hv => ⟨(hv.cell (p := ⟨R, 2, none⟩) (World.block_lt_of_cell? vz _ q2)).trans q2, r1.grow hv⟩)
          have HRF := Lib.hid (fun (v : World) (hv : Grown vz v) => refFreeN_any (hsv.grow hv) FW.out.1)
          clear hsv l1 l2 q0 q1 q2 q3 r1 r2 hnu
          have GD := Lib.hid (show Grown vz vz.drew from (Below.refl _ vz).drew)
          have S0 := Lib.hid (RV.out _ GD.out).1
          refine restS_begin (fun v : World => v.cell? ⟨R, 2, none⟩ = some (.slice Au nu cu)) (by kernel_rfl) ?_
          generalize vz.drew = vd at GD S0 ⊢
          refine restS_take (i := 0) S0.out rfl (by kernel_rfl) (by kernel_rfl) (by kernel_rfl) (by rfl) (fun v hv => by go_simp; try with_reducible rfl) ?_
          try simp only [Act.put, List.setIfInBounds_toArray, List.set_cons_zero, List.set_cons_succ]
          refine restS_take (i := 1) S0.out rfl (by kernel_rfl) (by kernel_rfl) (by kernel_rfl) (by rfl) (fun v hv => by go_simp; try with_reducible rfl) ?_
          try simp only [Act.put, List.setIfInBounds_toArray, List.set_cons_zero, List.set_cons_succ]
          refine restS_take (i := 2) S0.out rfl (by kernel_rfl) (by kernel_rfl) (by kernel_rfl) (by rfl) (fun v hv => by go_simp; try with_reducible rfl) ?_
          try simp only [Act.put, List.setIfInBounds_toArray, List.set_cons_zero, List.set_cons_succ]
          refine restS_take (i := 3) S0.out rfl (by kernel_rfl) (by kernel_rfl) (by kernel_rfl) (by rfl) (fun v hv => by go_simp; try with_reducible rfl) ?_
          try simp only [Act.put, List.setIfInBounds_toArray, List.set_cons_zero, List.set_cons_succ]
          refine restS_take (i := 5) S0.out rfl (by kernel_rfl) (by kernel_rfl) (by kernel_rfl) (by rfl) (fun v hv => by go_simp; try with_reducible rfl) ?_
          try simp only [Act.put, List.setIfInBounds_toArray, List.set_cons_zero, List.set_cons_succ]
          refine restS_lone (i := 4) rfl (by kernel_rfl) (by rfl) (fun K hK => ?_)
          go_simp
          refine (KK.out.free vd G FP s1 (ZZ.out.grow KK.out GD.out).p OO.out).mono ?_
          rintro e v3 ⟨rfl, hg3⟩
          have G3 := Lib.hid (GD.out.trans hg3)
          have S3 := Lib.hid (RV.out v3 G3.out).1
          clear hg3
          refine hK.out _ _ S3.out ?_
          clear hK K
          try simp only [Act.put, List.setIfInBounds_toArray, List.set_cons_zero, List.set_cons_succ]
          refine restS_lone (i := 6) rfl (by kernel_rfl) (by rfl) (fun K hK => ?_)
          go_simp
          refine (HRF.out v3 G3.out).mono ?_
          rintro e v4 ⟨rfl, hg4⟩
          have G4 := Lib.hid (G3.out.trans hg4)
          have S4 := Lib.hid (RV.out v4 G4.out).1
          clear hg4 HRF
          refine hK.out _ _ S4.out ?_
          clear hK K
          try simp only [Act.put, List.setIfInBounds_toArray, List.set_cons_zero, List.set_cons_succ]
          refine restS_take (i := 7) S4.out rfl (by kernel_rfl) (by kernel_rfl) (by kernel_rfl) (by rfl) (fun v hv => by go_simp; try with_reducible rfl) ?_
          try simp only [Act.put, List.setIfInBounds_toArray, List.set_cons_zero, List.set_cons_succ]
          refine restS_take (i := 8) S4.out rfl (by kernel_rfl) (by kernel_rfl) (by kernel_rfl) (by rfl) (fun v hv => by go_simp; try with_reducible rfl) ?_
          try simp only [Act.put, List.setIfInBounds_toArray, List.set_cons_zero, List.set_cons_succ]
          refine restS_take (i := 9) S4.out rfl (by kernel_rfl) (by kernel_rfl) (by kernel_rfl) (by rfl) (fun v hv => by go_simp; try with_reducible rfl) ?_
          try simp only [Act.put, List.setIfInBounds_toArray, List.set_cons_zero, List.set_cons_succ]
          refine restS_take (i := 10) S4.out rfl (by kernel_rfl) (by kernel_rfl) (by kernel_rfl) (by rfl) (fun v hv => by go_simp; try with_reducible rfl) ?_
          try simp only [Act.put, List.setIfInBounds_toArray, List.set_cons_zero, List.set_cons_succ]
          refine restS_take (i := 12) S4.out rfl (by kernel_rfl) (by kernel_rfl) (by kernel_rfl) (by rfl) (fun v hv => by go_simp; try with_reducible rfl) ?_
          try simp only [Act.put, List.setIfInBounds_toArray, List.set_cons_zero, List.set_cons_succ]
          refine restS_take (i := 13) S4.out rfl (by kernel_rfl) (by kernel_rfl) (by kernel_rfl) (by rfl) (fun v hv => by go_simp; try with_reducible rfl) ?_
          try simp only [Act.put, List.setIfInBounds_toArray, List.set_cons_zero, List.set_cons_succ]
          refine restS_take (i := 14) S4.out rfl (by kernel_rfl) (by kernel_rfl) (by kernel_rfl) (by rfl) (fun v hv => by go_simp; try with_reducible rfl) ?_
          try simp only [Act.put, List.setIfInBounds_toArray, List.set_cons_zero, List.set_cons_succ]
          refine restS_take (i := 15) S4.out rfl (by kernel_rfl) (by kernel_rfl) (by kernel_rfl) (by rfl) (fun v hv => by go_simp; try with_reducible rfl) ?_
          try simp only [Act.put, List.setIfInBounds_toArray, List.set_cons_zero, List.set_cons_succ]
          refine restS_lone (i := 11) rfl (by kernel_rfl) (by rfl) (fun K hK => ?_)
          go_simp
          refine (KK.out.used v4 G FP s1 (ZZ.out.grow KK.out G4.out).p OO.out).mono ?_
          rintro e v5 ⟨Ax, mx, cx, rfl, hmx, hcx, hrx, hg5, _⟩
          obtain rfl : nu = mx := by rw [HNU.out]; exact hmx
          have G5 := Lib.hid (G4.out.trans hg5)
          have S5 := Lib.hid (RV.out v5 G5.out).1
          have HIn := Lib.hid (refInts_any (c := cx) (c2 := cu) hrx hmx (by omega) (RV.out v5 G5.out).2 HNU.out.symm (by omega))
          rw [decide_eq_true (rfl : s1.used = s1.used)] at HIn
          clear hg5 hmx hcx hrx
          refine hK.out _ _ S5.out ?_
          clear hK K
          try simp only [Act.put, List.setIfInBounds_toArray, List.set_cons_zero, List.set_cons_succ]
          refine restS_lone (i := 16) rfl (by kernel_rfl) (by rfl) (fun K hK => ?_)
          go_simp
          refine HIn.out.mono ?_
          rintro e v6 ⟨rfl, hg6⟩
          have G6 := Lib.hid (G5.out.trans hg6)
          have S6 := Lib.hid (RV.out v6 G6.out).1
          clear hg6 HIn
          refine hK.out _ _ S6.out ?_
          clear hK K
          try simp only [Act.put, List.setIfInBounds_toArray, List.set_cons_zero, List.set_cons_succ]
          refine restS_take (i := 17) S6.out rfl (by kernel_rfl) (by kernel_rfl) (by kernel_rfl) (by rfl) (fun v hv => by go_simp; try with_reducible rfl) ?_
          try simp only [Act.put, List.setIfInBounds_toArray, List.set_cons_zero, List.set_cons_succ]
          refine restS_take (i := 18) S6.out rfl (by kernel_rfl) (by kernel_rfl) (by kernel_rfl) (by rfl) (fun v hv => by go_simp; try with_reducible rfl) ?_
          try simp only [Act.put, List.setIfInBounds_toArray, List.set_cons_zero, List.set_cons_succ]
          refine restS_done (by kernel_rfl) ?_
          have Z6 := Lib.hid (ZZ.out.grow KK.out G6.out)
          have B6 := Lib.hid (BZ.out.grow G6.out)
          clear S0 S3 S4 S5 S6 GD G3 G4 G5 G6 RV ZZ BZ
          go_wp2_with fail
          go_loopw [17] (fun v17 wq => ∃ (q : Nat), v17 = .int .i64 (q : Int) ∧ q ≤ na ∧ Hid (Tw D w wq G FP s1 R FR s1) ∧ Hid (Bs wq FP FR a (acO 0 Aa na ca))) (fun v17 _ => na - (intOf v17).toNat)
          case atStart => exact ⟨0, rfl, Nat.zero_le _, Z6.out, B6.out⟩
          case round =>
            clear Z6 B6
            obtain ⟨q, rfl, hq, HZ, HBs⟩ := hrel
            obtain ⟨sa0, sa1⟩ := sa_of HBs.out
            by_cases hqn : q < na
            · have bq : (q : Int) < (na : Int) := by omega
              obtain ⟨x, hx⟩ : ∃ x, x = at_[q]'(by rw [HA1.out]; exact hqn) := ⟨_, rfl⟩
              have hxr : Ir x := by rw [hx]; exact HA4.out _ (List.getElem_mem _)
              obtain ⟨bx, ox, hAe, hbx, hcx⟩ := HA3.out.at_ (k := q) (by rw [HA1.out]; exact hqn)
              rw [← hx] at hcx
              have HIs := Lib.hid (fun (v : World) (hv : Tw D w v G FP s1 R FR s1) => KK.out.is_ v G FP s1 x hv.p OO.out hxr)
              subst hAe
              have hcx' := (HZ.out.gr.cell (p := ⟨bx, ox + q, none⟩) hbx).trans hcx
              go_wp2_with fail
              obtain ⟨Au2, Ag2, hsv, _⟩ := HZ.out.r
              obtain ⟨cu2, cg2, l1, l2, q0, q1, q2, q3, r1, r2⟩ := hsv.cells
              rw [← HNU.out] at q2
              have RW := Lib.hid (show ∀ v : World, Grown wr v → v.cell? ⟨R, 2, none⟩ = some (.slice Au2 nu cu2) ∧ v.cell? ⟨a, 1, none⟩ = some (.slice (some ⟨bx, ox, none⟩) na ca) ∧ v.cell? ⟨bx, ox + q, none⟩ = some (.int .i64 x) ∧ RdZ v v.heap.size Au2 s1.used from fun v hv => ⟨(hv.cell (p := ⟨R, 2, none⟩) (World.block_lt_of_cell? wr _ q2)).trans q2, (hv.cell (p := ⟨a, 1, none⟩) (World.block_lt_of_cell? wr _ sa1)).trans sa1, (hv.cell (p := ⟨bx, ox + q, none⟩) (World.block_lt_of_cell? wr _ hcx')).trans hcx', r1.grow hv⟩)
              clear hsv l1 l2 q0 q1 q2 q3 r1 r2 sa0 sa1 hcx hcx' hx
              go_loopw [18, 19] (fun v18 v19 wy => ∃ (j : Nat) (t : Bool), v18 = .bool t ∧ v19 = .int .i64 (j : Int) ∧ j ≤ nu ∧ Hid (t = (s1.used.take j).contains x) ∧ Hid (Grown wr wy)) (fun _ v19 _ => nu - (intOf v19).toNat)
              case atStart => exact ⟨0, false, rfl, rfl, Nat.zero_le _, rfl, Grown.refl _⟩
              case round =>
                obtain ⟨j, t, rfl, rfl, hj, HT, HG⟩ := hrel
                obtain ⟨p0, p1, p2, p3⟩ := RW.out _ HG.out
                by_cases hjn : j < nu
                · have bj : (j : Int) < (nu : Int) := by omega
                  have hju : j < s1.used.length := by rw [← HNU.out]; exact hjn
                  obtain ⟨y, hy⟩ : ∃ y, y = s1.used[j] := ⟨_, rfl⟩
                  obtain ⟨b6, o6, hAu, hb6, hc6⟩ := p3.at_ hju
                  rw [← hy] at hc6
                  have HTn := Lib.hid (show (t || (y == x)) = (s1.used.take (j + 1)).contains x by rw [take_has _ _ _ hju, ← HT.out, hy])
                  subst hAu
                  clear hy hju p3 HT
                  have GD := Lib.hid (show Grown _ wr.drew from Grown.trans HG.out (Below.refl _ wr).drew)
                  have S0 := Lib.hid (show wr.drew.cell? ⟨R, 2, none⟩ = some (.slice (some ⟨b6, o6, none⟩) nu cu2) ∧ wr.drew.cell? ⟨a, 1, none⟩ = some (.slice (some ⟨bx, ox, none⟩) na ca) ∧ wr.drew.cell? ⟨bx, ox + q, none⟩ = some (.int .i64 x) ∧ wr.drew.cell? ⟨b6, o6 + j, none⟩ = some (.int .i64 y) from ⟨p0, p1, p2, hc6⟩)
                  clear p1 p2 hc6
                  go_wp2_with fail
                  clear p0
                  refine restS_begin (fun v : World => v.cell? ⟨R, 2, none⟩ = some (.slice (some ⟨b6, o6, none⟩) nu cu2) ∧ v.cell? ⟨a, 1, none⟩ = some (.slice (some ⟨bx, ox, none⟩) na ca) ∧ v.cell? ⟨bx, ox + q, none⟩ = some (.int .i64 x) ∧ v.cell? ⟨b6, o6 + j, none⟩ = some (.int .i64 y)) (by kernel_rfl) ?_
                  generalize wr.drew = wd at GD S0 ⊢
                  cases t with
                  | true =>
                    refine restS_take (i := 0) S0.out rfl (by kernel_rfl) (by kernel_rfl) (by kernel_rfl) (by rfl) (fun v hv => by go_simp; try with_reducible rfl) ?_
                    try simp only [Act.put, List.setIfInBounds_toArray, List.set_cons_zero, List.set_cons_succ]
                    refine restS_take (i := 1) S0.out rfl (by kernel_rfl) (by kernel_rfl) (by kernel_rfl) (by rfl) (fun v hv => by go_simp; try with_reducible rfl) ?_
                    try simp only [Act.put, List.setIfInBounds_toArray, List.set_cons_zero, List.set_cons_succ]
                    refine restS_pass (i := 2) S0.out rfl (by kernel_rfl) (by kernel_rfl) (by kernel_rfl) (by rfl) ?_
                    try simp only [Act.put, List.setIfInBounds_toArray, List.set_cons_zero, List.set_cons_succ]
                    refine restS_pass (i := 3) S0.out rfl (by kernel_rfl) (by kernel_rfl) (by kernel_rfl) (by rfl) ?_
                    try simp only [Act.put, List.setIfInBounds_toArray, List.set_cons_zero, List.set_cons_succ]
                    refine restS_pass (i := 4) S0.out rfl (by kernel_rfl) (by kernel_rfl) (by kernel_rfl) (by rfl) ?_
                    try simp only [Act.put, List.setIfInBounds_toArray, List.set_cons_zero, List.set_cons_succ]
                    refine restS_pass (i := 5) S0.out rfl (by kernel_rfl) (by kernel_rfl) (by kernel_rfl) (by rfl) ?_
                    try simp only [Act.put, List.setIfInBounds_toArray, List.set_cons_zero, List.set_cons_succ]
                    refine restS_pass (i := 6) S0.out rfl (by kernel_rfl) (by kernel_rfl) (by kernel_rfl) (by rfl) ?_
                    try simp only [Act.put, List.setIfInBounds_toArray, List.set_cons_zero, List.set_cons_succ]
                    refine restS_pass (i := 7) S0.out rfl (by kernel_rfl) (by kernel_rfl) (by kernel_rfl) (by rfl) ?_
                    try simp only [Act.put, List.setIfInBounds_toArray, List.set_cons_zero, List.set_cons_succ]
                    refine restS_pass (i := 8) S0.out rfl (by kernel_rfl) (by kernel_rfl) (by kernel_rfl) (by rfl) ?_
                    try simp only [Act.put, List.setIfInBounds_toArray, List.set_cons_zero, List.set_cons_succ]
                    refine restS_pass (i := 9) S0.out rfl (by kernel_rfl) (by kernel_rfl) (by kernel_rfl) (by rfl) ?_
                    try simp only [Act.put, List.setIfInBounds_toArray, List.set_cons_zero, List.set_cons_succ]
                    refine restS_pass (i := 10) S0.out rfl (by kernel_rfl) (by kernel_rfl) (by kernel_rfl) (by rfl) ?_
                    try simp only [Act.put, List.setIfInBounds_toArray, List.set_cons_zero, List.set_cons_succ]
                    refine restS_pass (i := 11) S0.out rfl (by kernel_rfl) (by kernel_rfl) (by kernel_rfl) (by rfl) ?_
                    try simp only [Act.put, List.setIfInBounds_toArray, List.set_cons_zero, List.set_cons_succ]
                    refine restS_pass (i := 12) S0.out rfl (by kernel_rfl) (by kernel_rfl) (by kernel_rfl) (by rfl) ?_
                    try simp only [Act.put, List.setIfInBounds_toArray, List.set_cons_zero, List.set_cons_succ]
                    refine restS_pass (i := 13) S0.out rfl (by kernel_rfl) (by kernel_rfl) (by kernel_rfl) (by rfl) ?_
                    try simp only [Act.put, List.setIfInBounds_toArray, List.set_cons_zero, List.set_cons_succ]
                    refine restS_pass (i := 14) S0.out rfl (by kernel_rfl) (by kernel_rfl) (by kernel_rfl) (by rfl) ?_
                    try simp only [Act.put, List.setIfInBounds_toArray, List.set_cons_zero, List.set_cons_succ]
                    refine restS_take (i := 15) S0.out rfl (by kernel_rfl) (by kernel_rfl) (by kernel_rfl) (by rfl) (fun v hv => by go_simp; try with_reducible rfl) ?_
                    try simp only [Act.put, List.setIfInBounds_toArray, List.set_cons_zero, List.set_cons_succ]
                    refine restS_take (i := 16) S0.out rfl (by kernel_rfl) (by kernel_rfl) (by kernel_rfl) (by rfl) (fun v hv => by go_simp; try with_reducible rfl) ?_
                    try simp only [Act.put, List.setIfInBounds_toArray, List.set_cons_zero, List.set_cons_succ]
                    refine restS_done (by kernel_rfl) ?_
                    go_wp2
                    exact ⟨⟨j + 1, true, rfl, by simp, by omega, HTn.out, GD.out⟩, by simp [intOf]; omega⟩
                  | false =>
                    refine restS_take (i := 0) S0.out rfl (by kernel_rfl) (by kernel_rfl) (by kernel_rfl) (by rfl) (fun v hv => by obtain ⟨s0, s1, s2, s3⟩ := hv; go_simp; try with_reducible rfl) ?_
                    try simp only [Act.put, List.setIfInBounds_toArray, List.set_cons_zero, List.set_cons_succ]
                    refine restS_take (i := 1) S0.out rfl (by kernel_rfl) (by kernel_rfl) (by kernel_rfl) (by rfl) (fun v hv => by obtain ⟨s0, s1, s2, s3⟩ := hv; go_simp; try with_reducible rfl) ?_
                    try simp only [Act.put, List.setIfInBounds_toArray, List.set_cons_zero, List.set_cons_succ]
                    refine restS_take (i := 2) S0.out rfl (by kernel_rfl) (by kernel_rfl) (by kernel_rfl) (by rfl) (fun v hv => by obtain ⟨s0, s1, s2, s3⟩ := hv; go_simp; try with_reducible rfl) ?_
                    try simp only [Act.put, List.setIfInBounds_toArray, List.set_cons_zero, List.set_cons_succ]
                    refine restS_take (i := 3) S0.out rfl (by kernel_rfl) (by kernel_rfl) (by kernel_rfl) (by rfl) (fun v hv => by obtain ⟨s0, s1, s2, s3⟩ := hv; go_simp; try with_reducible rfl) ?_
                    try simp only [Act.put, List.setIfInBounds_toArray, List.set_cons_zero, List.set_cons_succ]
                    refine restS_take (i := 4) S0.out rfl (by kernel_rfl) (by kernel_rfl) (by kernel_rfl) (by rfl) (fun v hv => by obtain ⟨s0, s1, s2, s3⟩ := hv; go_simp; try with_reducible rfl) ?_
                    try simp only [Act.put, List.setIfInBounds_toArray, List.set_cons_zero, List.set_cons_succ]
                    refine restS_take (i := 5) S0.out rfl (by kernel_rfl) (by kernel_rfl) (by kernel_rfl) (by rfl) (fun v hv => by obtain ⟨s0, s1, s2, s3⟩ := hv; go_simp; try with_reducible rfl) ?_
                    try simp only [Act.put, List.setIfInBounds_toArray, List.set_cons_zero, List.set_cons_succ]
                    refine restS_take (i := 6) S0.out rfl (by kernel_rfl) (by kernel_rfl) (by kernel_rfl) (by rfl) (fun v hv => by obtain ⟨s0, s1, s2, s3⟩ := hv; go_simp; try with_reducible rfl) ?_
                    try simp only [Act.put, List.setIfInBounds_toArray, List.set_cons_zero, List.set_cons_succ]
                    refine restS_take (i := 7) S0.out rfl (by kernel_rfl) (by kernel_rfl) (by kernel_rfl) (by rfl) (fun v hv => by obtain ⟨s0, s1, s2, s3⟩ := hv; go_simp; try with_reducible rfl) ?_
                    try simp only [Act.put, List.setIfInBounds_toArray, List.set_cons_zero, List.set_cons_succ]
                    refine restS_take (i := 8) S0.out rfl (by kernel_rfl) (by kernel_rfl) (by kernel_rfl) (by rfl) (fun v hv => by obtain ⟨s0, s1, s2, s3⟩ := hv; go_simp; try with_reducible rfl) ?_
                    try simp only [Act.put, List.setIfInBounds_toArray, List.set_cons_zero, List.set_cons_succ]
                    refine restS_take (i := 9) S0.out rfl (by kernel_rfl) (by kernel_rfl) (by kernel_rfl) (by rfl) (fun v hv => by obtain ⟨s0, s1, s2, s3⟩ := hv; go_simp; try with_reducible rfl) ?_
                    try simp only [Act.put, List.setIfInBounds_toArray, List.set_cons_zero, List.set_cons_succ]
                    refine restS_take (i := 10) S0.out rfl (by kernel_rfl) (by kernel_rfl) (by kernel_rfl) (by rfl) (fun v hv => by obtain ⟨s0, s1, s2, s3⟩ := hv; go_simp; try with_reducible rfl) ?_
                    try simp only [Act.put, List.setIfInBounds_toArray, List.set_cons_zero, List.set_cons_succ]
                    refine restS_take (i := 11) S0.out rfl (by kernel_rfl) (by kernel_rfl) (by kernel_rfl) (by rfl) (fun v hv => by obtain ⟨s0, s1, s2, s3⟩ := hv; go_simp; try with_reducible rfl) ?_
                    try simp only [Act.put, List.setIfInBounds_toArray, List.set_cons_zero, List.set_cons_succ]
                    refine restS_take (i := 12) S0.out rfl (by kernel_rfl) (by kernel_rfl) (by kernel_rfl) (by rfl) (fun v hv => by obtain ⟨s0, s1, s2, s3⟩ := hv; go_simp; try with_reducible rfl) ?_
                    try simp only [Act.put, List.setIfInBounds_toArray, List.set_cons_zero, List.set_cons_succ]
                    refine restS_take (i := 13) S0.out rfl (by kernel_rfl) (by kernel_rfl) (by kernel_rfl) (by rfl) (fun v hv => by obtain ⟨s0, s1, s2, s3⟩ := hv; go_simp; try with_reducible rfl) ?_
                    try simp only [Act.put, List.setIfInBounds_toArray, List.set_cons_zero, List.set_cons_succ]
                    refine restS_take (i := 14) S0.out rfl (by kernel_rfl) (by kernel_rfl) (by kernel_rfl) (by rfl) (fun v hv => by obtain ⟨s0, s1, s2, s3⟩ := hv; go_simp; try with_reducible rfl) ?_
                    try simp only [Act.put, List.setIfInBounds_toArray, List.set_cons_zero, List.set_cons_succ]
                    refine restS_take (i := 15) S0.out rfl (by kernel_rfl) (by kernel_rfl) (by kernel_rfl) (by rfl) (fun v hv => by obtain ⟨s0, s1, s2, s3⟩ := hv; go_simp; try with_reducible rfl) ?_
                    try simp only [Act.put, List.setIfInBounds_toArray, List.set_cons_zero, List.set_cons_succ]
                    refine restS_take (i := 16) S0.out rfl (by kernel_rfl) (by kernel_rfl) (by kernel_rfl) (by rfl) (fun v hv => by obtain ⟨s0, s1, s2, s3⟩ := hv; go_simp; try with_reducible rfl) ?_
                    try simp only [Act.put, List.setIfInBounds_toArray, List.set_cons_zero, List.set_cons_succ]
                    refine restS_done (by kernel_rfl) ?_
                    go_wp2
                    exact ⟨⟨j + 1, y == x, by simp, by simp, by omega, HTn.out, GD.out⟩, by simp [intOf]; omega⟩
                · have bj : ¬ (j : Int) < (nu : Int) := by omega
                  have HTn := Lib.hid (show t = s1.used.contains x by rw [HT.out, List.take_of_length_le (by rw [← HNU.out]; omega)])
                  clear HT
                  clear p3
                  go_wp2_with fail
                  refine (HIs.out _ (HZ.out.grow KK.out HG.out)).mono ?_
                  rintro e w9 ⟨rfl, hg9⟩
                  rw [← HTn.out]
                  have Z9 := Lib.hid ((HZ.out.grow KK.out HG.out).grow KK.out hg9)
                  have B9 := Lib.hid ((HBs.out.grow HG.out).grow hg9)
                  clear hg9
                  go_wp2
                  exact ⟨⟨q + 1, by simp, by omega, Z9.out, B9.out⟩, by simp [intOf]; omega⟩
            · have bq : ¬ (q : Int) < (na : Int) := by omega
              go_wp2
              exact ⟨⟨i + 1, FP, FR, s1, by simp, by omega, OO.out, LL.out, HZ.out⟩, by simp [intOf]; omega⟩
      · as_aux_lemma =>
          have ZA := Lib.hid (HZ.out.grow KK.out (alloc_below wr (.cells #[.int .i64 1, .slice Aa na ca] 34)))
          have BA := Lib.hid (show Bs (wr.alloc (.cells #[.int .i64 1, .slice Aa na ca] 34)) F F2 wr.heap.size (acO 1 Aa na ca) from Bs.new KK.out HZ.out _)
          have FS := Lib.hid (HO.out.few (by rw [HB.out.1, HB.out.2]; exact h60'))
          clear HZ
          go_wp2_with fail
          obtain ⟨a, ha⟩ : ∃ a, a = wr.heap.size := ⟨_, rfl⟩
          rw [← ha] at BA ⊢
          clear ha d0 d1
          generalize wr.alloc _ = va at ZA BA ⊢
          have OO := Lib.hid (ok_use HO.out at_)
          have LL := Lib.hid (show (spUse s at_).2.first = f ∧ (spUse s at_).2.last = l by rw [(ends_use s at_).1, (ends_use s at_).2]; exact HB.out)
          obtain ⟨s1, hs1⟩ : ∃ s1, s1 = (spUse s at_).2 := ⟨_, rfl⟩
          obtain ⟨er, her⟩ : ∃ er, er = (spUse s at_).1 := ⟨_, rfl⟩
          have HP := Lib.hid (fun (v : World) (hv : Tw D w v G F s R F2 s) => KK.out.use v G F s Aa na ca at_ hv.p HO.out (HA3.out.grow hv.gr) HA1.out ha2 (by omega) HA4.out (off_p hv HA3.out).1)
          have HR := Lib.hid (fun (v : World) (F' : Nat → Prop) (hv : Tw D w v G F' s1 R F2 s) => rUse (c := ca) hv.r FS.out.1 (HA3.out.grow hv.gr) HA1.out ha2 (by omega) FS.out.2 (off_p hv HA3.out).2)
          rw [← hs1] at OO LL
          rw [← hs1, ← her] at HP HR
          clear hs1 her HO HB FS
          generalize hvd : va.drew = vd
          have ZD := Lib.hid (show Tw D w vd G F s R F2 s by rw [← hvd]; exact ZA.out.grow KK.out ((Below.refl _ va).drew))
          have BD := Lib.hid (show Bs vd F F2 a (acO 1 Aa na ca) by rw [← hvd]; exact BA.out.grow ((Below.refl _ va).drew))
          clear ZA BA
          refine restS_begin (SA a 1 Aa na ca) (by kernel_rfl) ?_
          rw [hvd]
          clear hvd
          refine restS_take (i := 0) (sa_of BD.out) rfl (by kernel_rfl) (by kernel_rfl) (by kernel_rfl) (by rfl) (fun v hv => by obtain ⟨s0, s1⟩ := hv; go_simp; try with_reducible rfl) ?_
          try simp only [Act.put, List.setIfInBounds_toArray, List.set_cons_zero, List.set_cons_succ]
          refine restS_take (i := 1) (sa_of BD.out) rfl (by kernel_rfl) (by kernel_rfl) (by kernel_rfl) (by rfl) (fun v hv => by obtain ⟨s0, s1⟩ := hv; go_simp; try with_reducible rfl) ?_
          try simp only [Act.put, List.setIfInBounds_toArray, List.set_cons_zero, List.set_cons_succ]
          refine restS_take (i := 2) (sa_of BD.out) rfl (by kernel_rfl) (by kernel_rfl) (by kernel_rfl) (by rfl) (fun v hv => by obtain ⟨s0, s1⟩ := hv; go_simp; try with_reducible rfl) ?_
          try simp only [Act.put, List.setIfInBounds_toArray, List.set_cons_zero, List.set_cons_succ]
          refine restS_take (i := 4) (sa_of BD.out) rfl (by kernel_rfl) (by kernel_rfl) (by kernel_rfl) (by rfl) (fun v hv => by obtain ⟨s0, s1⟩ := hv; go_simp; try with_reducible rfl) ?_
          try simp only [Act.put, List.setIfInBounds_toArray, List.set_cons_zero, List.set_cons_succ]
          refine restS_take (i := 5) (sa_of BD.out) rfl (by kernel_rfl) (by kernel_rfl) (by kernel_rfl) (by rfl) (fun v hv => by obtain ⟨s0, s1⟩ := hv; go_simp; try with_reducible rfl) ?_
          try simp only [Act.put, List.setIfInBounds_toArray, List.set_cons_zero, List.set_cons_succ]
          refine restS_take (i := 6) (sa_of BD.out) rfl (by kernel_rfl) (by kernel_rfl) (by kernel_rfl) (by rfl) (fun v hv => by obtain ⟨s0, s1⟩ := hv; go_simp; try with_reducible rfl) ?_
          try simp only [Act.put, List.setIfInBounds_toArray, List.set_cons_zero, List.set_cons_succ]
          refine restS_lone (i := 3) rfl (by kernel_rfl) (by rfl) (fun K hK => ?_)
          go_simp
          refine (HP.out vd ZD.out).mono ?_
          rintro e v1 ⟨rfl, h1⟩
          obtain ⟨FP, hz, hb⟩ := ZD.out.prog h1
          have Z1 := Lib.hid hz
          have B1 := Lib.hid (hb _ _ BD.out)
          clear h1 hz hb ZD BD HP
          refine hK.out _ _ (sa_of B1.out) ?_
          clear hK K
          try simp only [Act.put, List.setIfInBounds_toArray, List.set_cons_zero, List.set_cons_succ]
          refine restS_lone (i := 7) rfl (by kernel_rfl) (by rfl) (fun K hK => ?_)
          go_simp
          refine (HR.out v1 FP Z1.out).mono ?_
          rintro e v2 ⟨rfl, h2⟩
          obtain ⟨FR, hz, hb⟩ := Z1.out.ref KK.out h2
          have ZZ := Lib.hid hz
          have BZ := Lib.hid (hb _ _ B1.out)
          clear h2 hz hb Z1 B1 HR
          refine hK.out _ _ (sa_of BZ.out) ?_
          clear hK K
          try simp only [Act.put, List.setIfInBounds_toArray, List.set_cons_zero, List.set_cons_succ]
          refine restS_take (i := 8) (sa_of BZ.out) rfl (by kernel_rfl) (by kernel_rfl) (by kernel_rfl) (by rfl) (fun v hv => by go_simp; try with_reducible rfl) ?_
          try simp only [Act.put, List.setIfInBounds_toArray, List.set_cons_zero, List.set_cons_succ]
          refine restS_take (i := 9) (sa_of BZ.out) rfl (by kernel_rfl) (by kernel_rfl) (by kernel_rfl) (by rfl) (fun v hv => by go_simp; try with_reducible rfl) ?_
          try simp only [Act.put, List.setIfInBounds_toArray, List.set_cons_zero, List.set_cons_succ]
          refine restS_done (by kernel_rfl) ?_
          go_wp2_with fail
          generalize v2 = vz at ZZ BZ ⊢
          have FW := Lib.hid (OO.out.few (by rw [LL.out.1, LL.out.2]; exact h60'))
          obtain ⟨Au, Ag, hsv, _⟩ := ZZ.out.r
          obtain ⟨cu, cg, l1, l2, q0, q1, q2, q3, r1, r2⟩ := hsv.cells
          obtain ⟨nu, hnu⟩ : ∃ nu, nu = s1.used.length := ⟨_, rfl⟩
          rw [← hnu] at q2
          have HNU := Lib.hid hnu
          have hnu60 : nu ≤ 60 := by rw [hnu]; have := FW.out.2; omega
          have RV := Lib.hid (show ∀ v : World, Grown vz v → v.cell? ⟨R, 2, none⟩ = some (.slice Au nu cu) ∧ RdZ v v.heap.size Au s1.used from fun v hv => ⟨(hv.cell (p := ⟨R, 2, none⟩) (World.block_lt_of_cell? vz _ q2)).trans q2, r1.grow hv⟩)
          have HRF := Lib.hid (fun (v : World) (hv : Grown vz v) => refFreeN_any (hsv.grow hv) FW.out.1)
          clear hsv l1 l2 q0 q1 q2 q3 r1 r2 hnu
          have GD := Lib.hid (show Grown vz vz.drew from (Below.refl _ vz).drew)
          have S0 := Lib.hid (RV.out _ GD.out).1
          refine restS_begin (fun v : World => v.cell? ⟨R, 2, none⟩ = some (.slice Au nu cu)) (by kernel_rfl) ?_
          generalize vz.drew = vd at GD S0 ⊢
          refine restS_take (i := 0) S0.out rfl (by kernel_rfl) (by kernel_rfl) (by kernel_rfl) (by rfl) (fun v hv => by go_simp; try with_reducible rfl) ?_
          try simp only [Act.put, List.setIfInBounds_toArray, List.set_cons_zero, List.set_cons_succ]
          refine restS_take (i := 1) S0.out rfl (by kernel_rfl) (by kernel_rfl) (by kernel_rfl) (by rfl) (fun v hv => by go_simp; try with_reducible rfl) ?_
          try simp only [Act.put, List.setIfInBounds_toArray, List.set_cons_zero, List.set_cons_succ]
          refine restS_take (i := 2) S0.out rfl (by kernel_rfl) (by kernel_rfl) (by kernel_rfl) (by rfl) (fun v hv => by go_simp; try with_reducible rfl) ?_
          try simp only [Act.put, List.setIfInBounds_toArray, List.set_cons_zero, List.set_cons_succ]
          refine restS_take (i := 3) S0.out rfl (by kernel_rfl) (by kernel_rfl) (by kernel_rfl) (by rfl) (fun v hv => by go_simp; try with_reducible rfl) ?_
          try simp only [Act.put, List.setIfInBounds_toArray, List.set_cons_zero, List.set_cons_succ]
          refine restS_take (i := 5) S0.out rfl (by kernel_rfl) (by kernel_rfl) (by kernel_rfl) (by rfl) (fun v hv => by go_simp; try with_reducible rfl) ?_
          try simp only [Act.put, List.setIfInBounds_toArray, List.set_cons_zero, List.set_cons_succ]
          refine restS_lone (i := 4) rfl (by kernel_rfl) (by rfl) (fun K hK => ?_)
          go_simp
          refine (KK.out.free vd G FP s1 (ZZ.out.grow KK.out GD.out).p OO.out).mono ?_
          rintro e v3 ⟨rfl, hg3⟩
          have G3 := Lib.hid (GD.out.trans hg3)
          have S3 := Lib.hid (RV.out v3 G3.out).1
          clear hg3
          refine hK.out _ _ S3.out ?_
          clear hK K
          try simp only [Act.put, List.setIfInBounds_toArray, List.set_cons_zero, List.set_cons_succ]
          refine restS_lone (i := 6) rfl (by kernel_rfl) (by rfl) (fun K hK => ?_)
          go_simp
          refine (HRF.out v3 G3.out).mono ?_
          rintro e v4 ⟨rfl, hg4⟩
          have G4 := Lib.hid (G3.out.trans hg4)
          have S4 := Lib.hid (RV.out v4 G4.out).1
          clear hg4 HRF
          refine hK.out _ _ S4.out ?_
          clear hK K
          try simp only [Act.put, List.setIfInBounds_toArray, List.set_cons_zero, List.set_cons_succ]
          refine restS_take (i := 7) S4.out rfl (by kernel_rfl) (by kernel_rfl) (by kernel_rfl) (by rfl) (fun v hv => by go_simp; try with_reducible rfl) ?_
          try simp only [Act.put, List.setIfInBounds_toArray, List.set_cons_zero, List.set_cons_succ]
          refine restS_take (i := 8) S4.out rfl (by kernel_rfl) (by kernel_rfl) (by kernel_rfl) (by rfl) (fun v hv => by go_simp; try with_reducible rfl) ?_
          try simp only [Act.put, List.setIfInBounds_toArray, List.set_cons_zero, List.set_cons_succ]
          refine restS_take (i := 9) S4.out rfl (by kernel_rfl) (by kernel_rfl) (by kernel_rfl) (by rfl) (fun v hv => by go_simp; try with_reducible rfl) ?_
          try simp only [Act.put, List.setIfInBounds_toArray, List.set_cons_zero, List.set_cons_succ]
          refine restS_take (i := 10) S4.out rfl (by kernel_rfl) (by kernel_rfl) (by kernel_rfl) (by rfl) (fun v hv => by go_simp; try with_reducible rfl) ?_
          try simp only [Act.put, List.setIfInBounds_toArray, List.set_cons_zero, List.set_cons_succ]
          refine restS_take (i := 12) S4.out rfl (by kernel_rfl) (by kernel_rfl) (by kernel_rfl) (by rfl) (fun v hv => by go_simp; try with_reducible rfl) ?_
          try simp only [Act.put, List.setIfInBounds_toArray, List.set_cons_zero, List.set_cons_succ]
          refine restS_take (i := 13) S4.out rfl (by kernel_rfl) (by kernel_rfl) (by kernel_rfl) (by rfl) (fun v hv => by go_simp; try with_reducible rfl) ?_
          try simp only [Act.put, List.setIfInBounds_toArray, List.set_cons_zero, List.set_cons_succ]
          refine restS_take (i := 14) S4.out rfl (by kernel_rfl) (by kernel_rfl) (by kernel_rfl) (by rfl) (fun v hv => by go_simp; try with_reducible rfl) ?_
          try simp only [Act.put, List.setIfInBounds_toArray, List.set_cons_zero, List.set_cons_succ]
          refine restS_take (i := 15) S4.out rfl (by kernel_rfl) (by kernel_rfl) (by kernel_rfl) (by rfl) (fun v hv => by go_simp; try with_reducible rfl) ?_
          try simp only [Act.put, List.setIfInBounds_toArray, List.set_cons_zero, List.set_cons_succ]
          refine restS_lone (i := 11) rfl (by kernel_rfl) (by rfl) (fun K hK => ?_)
          go_simp
          refine (KK.out.used v4 G FP s1 (ZZ.out.grow KK.out G4.out).p OO.out).mono ?_
          rintro e v5 ⟨Ax, mx, cx, rfl, hmx, hcx, hrx, hg5, _⟩
          obtain rfl : nu = mx := by rw [HNU.out]; exact hmx
          have G5 := Lib.hid (G4.out.trans hg5)
          have S5 := Lib.hid (RV.out v5 G5.out).1
          have HIn := Lib.hid (refInts_any (c := cx) (c2 := cu) hrx hmx (by omega) (RV.out v5 G5.out).2 HNU.out.symm (by omega))
          rw [decide_eq_true (rfl : s1.used = s1.used)] at HIn
          clear hg5 hmx hcx hrx
          refine hK.out _ _ S5.out ?_
          clear hK K
          try simp only [Act.put, List.setIfInBounds_toArray, List.set_cons_zero, List.set_cons_succ]
          refine restS_lone (i := 16) rfl (by kernel_rfl) (by rfl) (fun K hK => ?_)
          go_simp
          refine HIn.out.mono ?_
          rintro e v6 ⟨rfl, hg6⟩
          have G6 := Lib.hid (G5.out.trans hg6)
          have S6 := Lib.hid (RV.out v6 G6.out).1
          clear hg6 HIn
          refine hK.out _ _ S6.out ?_
          clear hK K
          try simp only [Act.put, List.setIfInBounds_toArray, List.set_cons_zero, List.set_cons_succ]
          refine restS_take (i := 17) S6.out rfl (by kernel_rfl) (by kernel_rfl) (by kernel_rfl) (by rfl) (fun v hv => by go_simp; try with_reducible rfl) ?_
          try simp only [Act.put, List.setIfInBounds_toArray, List.set_cons_zero, List.set_cons_succ]
          refine restS_take (i := 18) S6.out rfl (by kernel_rfl) (by kernel_rfl) (by kernel_rfl) (by rfl) (fun v hv => by go_simp; try with_reducible rfl) ?_
          try simp only [Act.put, List.setIfInBounds_toArray, List.set_cons_zero, List.set_cons_succ]
          refine restS_done (by kernel_rfl) ?_
          have Z6 := Lib.hid (ZZ.out.grow KK.out G6.out)
          have B6 := Lib.hid (BZ.out.grow G6.out)
          clear S0 S3 S4 S5 S6 GD G3 G4 G5 G6 RV ZZ BZ
          go_wp2_with fail
          go_loopw [17] (fun v17 wq => ∃ (q : Nat), v17 = .int .i64 (q : Int) ∧ q ≤ na ∧ Hid (Tw D w wq G FP s1 R FR s1) ∧ Hid (Bs wq FP FR a (acO 1 Aa na ca))) (fun v17 _ => na - (intOf v17).toNat)
          case atStart => exact ⟨0, rfl, Nat.zero_le _, Z6.out, B6.out⟩
          case round =>
            clear Z6 B6
            obtain ⟨q, rfl, hq, HZ, HBs⟩ := hrel
            obtain ⟨sa0, sa1⟩ := sa_of HBs.out
            by_cases hqn : q < na
            · have bq : (q : Int) < (na : Int) := by omega
              obtain ⟨x, hx⟩ : ∃ x, x = at_[q]'(by rw [HA1.out]; exact hqn) := ⟨_, rfl⟩
              have hxr : Ir x := by rw [hx]; exact HA4.out _ (List.getElem_mem _)
              obtain ⟨bx, ox, hAe, hbx, hcx⟩ := HA3.out.at_ (k := q) (by rw [HA1.out]; exact hqn)
              rw [← hx] at hcx
              have HIs := Lib.hid (fun (v : World) (hv : Tw D w v G FP s1 R FR s1) => KK.out.is_ v G FP s1 x hv.p OO.out hxr)
              subst hAe
              have hcx' := (HZ.out.gr.cell (p := ⟨bx, ox + q, none⟩) hbx).trans hcx
              go_wp2_with fail
              obtain ⟨Au2, Ag2, hsv, _⟩ := HZ.out.r
              obtain ⟨cu2, cg2, l1, l2, q0, q1, q2, q3, r1, r2⟩ := hsv.cells
              rw [← HNU.out] at q2
              have RW := Lib.hid (show ∀ v : World, Grown wr v → v.cell? ⟨R, 2, none⟩ = some (.slice Au2 nu cu2) ∧ v.cell? ⟨a, 1, none⟩ = some (.slice (some ⟨bx, ox, none⟩) na ca) ∧ v.cell? ⟨bx, ox + q, none⟩ = some (.int .i64 x) ∧ RdZ v v.heap.size Au2 s1.used from fun v hv => ⟨(hv.cell (p := ⟨R, 2, none⟩) (World.block_lt_of_cell? wr _ q2)).trans q2, (hv.cell (p := ⟨a, 1, none⟩) (World.block_lt_of_cell? wr _ sa1)).trans sa1, (hv.cell (p := ⟨bx, ox + q, none⟩) (World.block_lt_of_cell? wr _ hcx')).trans hcx', r1.grow hv⟩)
              clear hsv l1 l2 q0 q1 q2 q3 r1 r2 sa0 sa1 hcx hcx' hx
              go_loopw [18, 19] (fun v18 v19 wy => ∃ (j : Nat) (t : Bool), v18 = .bool t ∧ v19 = .int .i64 (j : Int) ∧ j ≤ nu ∧ Hid (t = (s1.used.take j).contains x) ∧ Hid (Grown wr wy)) (fun _ v19 _ => nu - (intOf v19).toNat)
              case atStart => exact ⟨0, false, rfl, rfl, Nat.zero_le _, rfl, Grown.refl _⟩
              case round =>
                obtain ⟨j, t, rfl, rfl, hj, HT, HG⟩ := hrel
                obtain ⟨p0, p1, p2, p3⟩ := RW.out _ HG.out
                by_cases hjn : j < nu
                · have bj : (j : Int) < (nu : Int) := by omega
                  have hju : j < s1.used.length := by rw [← HNU.out]; exact hjn
                  obtain ⟨y, hy⟩ : ∃ y, y = s1.used[j] := ⟨_, rfl⟩
                  obtain ⟨b6, o6, hAu, hb6, hc6⟩ := p3.at_ hju
                  rw [← hy] at hc6
                  have HTn := Lib.hid (show (t || (y == x)) = (s1.used.take (j + 1)).contains x by rw [take_has _ _ _ hju, ← HT.out, hy])
                  subst hAu
                  clear hy hju p3 HT
                  have GD := Lib.hid (show Grown _ wr.drew from Grown.trans HG.out (Below.refl _ wr).drew)
                  have S0 := Lib.hid (show wr.drew.cell? ⟨R, 2, none⟩ = some (.slice (some ⟨b6, o6, none⟩) nu cu2) ∧ wr.drew.cell? ⟨a, 1, none⟩ = some (.slice (some ⟨bx, ox, none⟩) na ca) ∧ wr.drew.cell? ⟨bx, ox + q, none⟩ = some (.int .i64 x) ∧ wr.drew.cell? ⟨b6, o6 + j, none⟩ = some (.int .i64 y) from ⟨p0, p1, p2, hc6⟩)
                  clear p1 p2 hc6
                  go_wp2_with fail
                  clear p0
                  refine restS_begin (fun v : World => v.cell? ⟨R, 2, none⟩ = some (.slice (some ⟨b6, o6, none⟩) nu cu2) ∧ v.cell? ⟨a, 1, none⟩ = some (.slice (some ⟨bx, ox, none⟩) na ca) ∧ v.cell? ⟨bx, ox + q, none⟩ = some (.int .i64 x) ∧ v.cell? ⟨b6, o6 + j, none⟩ = some (.int .i64 y)) (by kernel_rfl) ?_
                  generalize wr.drew = wd at GD S0 ⊢
                  cases t with
                  | true =>
                    refine restS_take (i := 0) S0.out rfl (by kernel_rfl) (by kernel_rfl) (by kernel_rfl) (by rfl) (fun v hv => by go_simp; try with_reducible rfl) ?_
                    try simp only [Act.put, List.setIfInBounds_toArray, List.set_cons_zero, List.set_cons_succ]
                    refine restS_take (i := 1) S0.out rfl (by kernel_rfl) (by kernel_rfl) (by kernel_rfl) (by rfl) (fun v hv => by go_simp; try with_reducible rfl) ?_
                    try simp only [Act.put, List.setIfInBounds_toArray, List.set_cons_zero, List.set_cons_succ]
                    refine restS_pass (i := 2) S0.out rfl (by kernel_rfl) (by kernel_rfl) (by kernel_rfl) (by rfl) ?_
                    try simp only [Act.put, List.setIfInBounds_toArray, List.set_cons_zero, List.set_cons_succ]
                    refine restS_pass (i := 3) S0.out rfl (by kernel_rfl) (by kernel_rfl) (by kernel_rfl) (by rfl) ?_
                    try simp only [Act.put, List.setIfInBounds_toArray, List.set_cons_zero, List.set_cons_succ]
                    refine restS_pass (i := 4) S0.out rfl (by kernel_rfl) (by kernel_rfl) (by kernel_rfl) (by rfl) ?_
                    try simp only [Act.put, List.setIfInBounds_toArray, List.set_cons_zero, List.set_cons_succ]
                    refine restS_pass (i := 5) S0.out rfl (by kernel_rfl) (by kernel_rfl) (by kernel_rfl) (by rfl) ?_
                    try simp only [Act.put, List.setIfInBounds_toArray, List.set_cons_zero, List.set_cons_succ]
                    refine restS_pass (i := 6) S0.out rfl (by kernel_rfl) (by kernel_rfl) (by kernel_rfl) (by rfl) ?_
                    try simp only [Act.put, List.setIfInBounds_toArray, List.set_cons_zero, List.set_cons_succ]
                    refine restS_pass (i := 7) S0.out rfl (by kernel_rfl) (by kernel_rfl) (by kernel_rfl) (by rfl) ?_
                    try simp only [Act.put, List.setIfInBounds_toArray, List.set_cons_zero, List.set_cons_succ]
                    refine restS_pass (i := 8) S0.out rfl (by kernel_rfl) (by kernel_rfl) (by kernel_rfl) (by rfl) ?_
                    try simp only [Act.put, List.setIfInBounds_toArray, List.set_cons_zero, List.set_cons_succ]
                    refine restS_pass (i := 9) S0.out rfl (by kernel_rfl) (by kernel_rfl) (by kernel_rfl) (by rfl) ?_
                    try simp only [Act.put, List.setIfInBounds_toArray, List.set_cons_zero, List.set_cons_succ]
                    refine restS_pass (i := 10) S0.out rfl (by kernel_rfl) (by kernel_rfl) (by kernel_rfl) (by rfl) ?_
                    try simp only [Act.put, List.setIfInBounds_toArray, List.set_cons_zero, List.set_cons_succ]
                    refine restS_pass (i := 11) S0.out rfl (by kernel_rfl) (by kernel_rfl) (by kernel_rfl) (by rfl) ?_
                    try simp only [Act.put, List.setIfInBounds_toArray, List.set_cons_zero, List.set_cons_succ]
                    refine restS_pass (i := 12) S0.out rfl (by kernel_rfl) (by kernel_rfl) (by kernel_rfl) (by rfl) ?_
                    try simp only [Act.put, List.setIfInBounds_toArray, List.set_cons_zero, List.set_cons_succ]
                    refine restS_pass (i := 13) S0.out rfl (by kernel_rfl) (by kernel_rfl) (by kernel_rfl) (by rfl) ?_
                    try simp only [Act.put, List.setIfInBounds_toArray, List.set_cons_zero, List.set_cons_succ]
                    refine restS_pass (i := 14) S0.out rfl (by kernel_rfl) (by kernel_rfl) (by kernel_rfl) (by rfl) ?_
                    try simp only [Act.put, List.setIfInBounds_toArray, List.set_cons_zero, List.set_cons_succ]
                    refine restS_take (i := 15) S0.out rfl (by kernel_rfl) (by kernel_rfl) (by kernel_rfl) (by rfl) (fun v hv => by go_simp; try with_reducible rfl) ?_
                    try simp only [Act.put, List.setIfInBounds_toArray, List.set_cons_zero, List.set_cons_succ]
                    refine restS_take (i := 16) S0.out rfl (by kernel_rfl) (by kernel_rfl) (by kernel_rfl) (by rfl) (fun v hv => by go_simp; try with_reducible rfl) ?_
                    try simp only [Act.put, List.setIfInBounds_toArray, List.set_cons_zero, List.set_cons_succ]
                    refine restS_done (by kernel_rfl) ?_
                    go_wp2
                    exact ⟨⟨j + 1, true, rfl, by simp, by omega, HTn.out, GD.out⟩, by simp [intOf]; omega⟩
                  | false =>
                    refine restS_take (i := 0) S0.out rfl (by kernel_rfl) (by kernel_rfl) (by kernel_rfl) (by rfl) (fun v hv => by obtain ⟨s0, s1, s2, s3⟩ := hv; go_simp; try with_reducible rfl) ?_
                    try simp only [Act.put, List.setIfInBounds_toArray, List.set_cons_zero, List.set_cons_succ]
                    refine restS_take (i := 1) S0.out rfl (by kernel_rfl) (by kernel_rfl) (by kernel_rfl) (by rfl) (fun v hv => by obtain ⟨s0, s1, s2, s3⟩ := hv; go_simp; try with_reducible rfl) ?_
                    try simp only [Act.put, List.setIfInBounds_toArray, List.set_cons_zero, List.set_cons_succ]
                    refine restS_take (i := 2) S0.out rfl (by kernel_rfl) (by kernel_rfl) (by kernel_rfl) (by rfl) (fun v hv => by obtain ⟨s0, s1, s2, s3⟩ := hv; go_simp; try with_reducible rfl) ?_
                    try simp only [Act.put, List.setIfInBounds_toArray, List.set_cons_zero, List.set_cons_succ]
                    refine restS_take (i := 3) S0.out rfl (by kernel_rfl) (by kernel_rfl) (by kernel_rfl) (by rfl) (fun v hv => by obtain ⟨s0, s1, s2, s3⟩ := hv; go_simp; try with_reducible rfl) ?_
                    try simp only [Act.put, List.setIfInBounds_toArray, List.set_cons_zero, List.set_cons_succ]
                    refine restS_take (i := 4) S0.out rfl (by kernel_rfl) (by kernel_rfl) (by kernel_rfl) (by rfl) (fun v hv => by obtain ⟨s0, s1, s2, s3⟩ := hv; go_simp; try with_reducible rfl) ?_
                    try simp only [Act.put, List.setIfInBounds_toArray, List.set_cons_zero, List.set_cons_succ]
                    refine restS_take (i := 5) S0.out rfl (by kernel_rfl) (by kernel_rfl) (by kernel_rfl) (by rfl) (fun v hv => by obtain ⟨s0, s1, s2, s3⟩ := hv; go_simp; try with_reducible rfl) ?_
                    try simp only [Act.put, List.setIfInBounds_toArray, List.set_cons_zero, List.set_cons_succ]
                    refine restS_take (i := 6) S0.out rfl (by kernel_rfl) (by kernel_rfl) (by kernel_rfl) (by rfl) (fun v hv => by obtain ⟨s0, s1, s2, s3⟩ := hv; go_simp; try with_reducible rfl) ?_
                    try simp only [Act.put, List.setIfInBounds_toArray, List.set_cons_zero, List.set_cons_succ]
                    refine restS_take (i := 7) S0.out rfl (by kernel_rfl) (by kernel_rfl) (by kernel_rfl) (by rfl) (fun v hv => by obtain ⟨s0, s1, s2, s3⟩ := hv; go_simp; try with_reducible rfl) ?_
                    try simp only [Act.put, List.setIfInBounds_toArray, List.set_cons_zero, List.set_cons_succ]
                    refine restS_take (i := 8) S0.out rfl (by kernel_rfl) (by kernel_rfl) (by kernel_rfl) (by rfl) (fun v hv => by obtain ⟨s0, s1, s2, s3⟩ := hv; go_simp; try with_reducible rfl) ?_
                    try simp only [Act.put, List.setIfInBounds_toArray, List.set_cons_zero, List.set_cons_succ]
                    refine restS_take (i := 9) S0.out rfl (by kernel_rfl) (by kernel_rfl) (by kernel_rfl) (by rfl) (fun v hv => by obtain ⟨s0, s1, s2, s3⟩ := hv; go_simp; try with_reducible rfl) ?_
                    try simp only [Act.put, List.setIfInBounds_toArray, List.set_cons_zero, List.set_cons_succ]
                    refine restS_take (i := 10) S0.out rfl (by kernel_rfl) (by kernel_rfl) (by kernel_rfl) (by rfl) (fun v hv => by obtain ⟨s0, s1, s2, s3⟩ := hv; go_simp; try with_reducible rfl) ?_
                    try simp only [Act.put, List.setIfInBounds_toArray, List.set_cons_zero, List.set_cons_succ]
                    refine restS_take (i := 11) S0.out rfl (by kernel_rfl) (by kernel_rfl) (by kernel_rfl) (by rfl) (fun v hv => by obtain ⟨s0, s1, s2, s3⟩ := hv; go_simp; try with_reducible rfl) ?_
                    try simp only [Act.put, List.setIfInBounds_toArray, List.set_cons_zero, List.set_cons_succ]
                    refine restS_take (i := 12) S0.out rfl (by kernel_rfl) (by kernel_rfl) (by kernel_rfl) (by rfl) (fun v hv => by obtain ⟨s0, s1, s2, s3⟩ := hv; go_simp; try with_reducible rfl) ?_
                    try simp only [Act.put, List.setIfInBounds_toArray, List.set_cons_zero, List.set_cons_succ]
                    refine restS_take (i := 13) S0.out rfl (by kernel_rfl) (by kernel_rfl) (by kernel_rfl) (by rfl) (fun v hv => by obtain ⟨s0, s1, s2, s3⟩ := hv; go_simp; try with_reducible rfl) ?_
                    try simp only [Act.put, List.setIfInBounds_toArray, List.set_cons_zero, List.set_cons_succ]
                    refine restS_take (i := 14) S0.out rfl (by kernel_rfl) (by kernel_rfl) (by kernel_rfl) (by rfl) (fun v hv => by obtain ⟨s0, s1, s2, s3⟩ := hv; go_simp; try with_reducible rfl) ?_
                    try simp only [Act.put, List.setIfInBounds_toArray, List.set_cons_zero, List.set_cons_succ]
                    refine restS_take (i := 15) S0.out rfl (by kernel_rfl) (by kernel_rfl) (by kernel_rfl) (by rfl) (fun v hv => by obtain ⟨s0, s1, s2, s3⟩ := hv; go_simp; try with_reducible rfl) ?_
                    try simp only [Act.put, List.setIfInBounds_toArray, List.set_cons_zero, List.set_cons_succ]
                    refine restS_take (i := 16) S0.out rfl (by kernel_rfl) (by kernel_rfl) (by kernel_rfl) (by rfl) (fun v hv => by obtain ⟨s0, s1, s2, s3⟩ := hv; go_simp; try with_reducible rfl) ?_
                    try simp only [Act.put, List.setIfInBounds_toArray, List.set_cons_zero, List.set_cons_succ]
                    refine restS_done (by kernel_rfl) ?_
                    go_wp2
                    exact ⟨⟨j + 1, y == x, by simp, by simp, by omega, HTn.out, GD.out⟩, by simp [intOf]; omega⟩
                · have bj : ¬ (j : Int) < (nu : Int) := by omega
                  have HTn := Lib.hid (show t = s1.used.contains x by rw [HT.out, List.take_of_length_le (by rw [← HNU.out]; omega)])
                  clear HT
                  clear p3
                  go_wp2_with fail
                  refine (HIs.out _ (HZ.out.grow KK.out HG.out)).mono ?_
                  rintro e w9 ⟨rfl, hg9⟩
                  rw [← HTn.out]
                  have Z9 := Lib.hid ((HZ.out.grow KK.out HG.out).grow KK.out hg9)
                  have B9 := Lib.hid ((HBs.out.grow HG.out).grow hg9)
                  clear hg9
                  go_wp2
                  exact ⟨⟨q + 1, by simp, by omega, Z9.out, B9.out⟩, by simp [intOf]; omega⟩
            · have bq : ¬ (q : Int) < (na : Int) := by omega
              go_wp2
              exact ⟨⟨i + 1, FP, FR, s1, by simp, by omega, OO.out, LL.out, HZ.out⟩, by simp [intOf]; omega⟩
      · as_aux_lemma =>
          have ZA := Lib.hid (HZ.out.grow KK.out (alloc_below wr (.cells #[.int .i64 2, .slice Aa na ca] 34)))
          have BA := Lib.hid (show Bs (wr.alloc (.cells #[.int .i64 2, .slice Aa na ca] 34)) F F2 wr.heap.size (acO 2 Aa na ca) from Bs.new KK.out HZ.out _)
          have FS := Lib.hid (HO.out.few (by rw [HB.out.1, HB.out.2]; exact h60'))
          clear HZ
          go_wp2_with fail
          obtain ⟨a, ha⟩ : ∃ a, a = wr.heap.size := ⟨_, rfl⟩
          rw [← ha] at BA ⊢
          clear ha d0 d1
          generalize wr.alloc _ = va at ZA BA ⊢
          have OO := Lib.hid (ok_give HO.out at_)
          have LL := Lib.hid (show (spGive s at_).2.first = f ∧ (spGive s at_).2.last = l by rw [(ends_give s at_).1, (ends_give s at_).2]; exact HB.out)
          obtain ⟨s1, hs1⟩ : ∃ s1, s1 = (spGive s at_).2 := ⟨_, rfl⟩
          obtain ⟨er, her⟩ : ∃ er, er = (spGive s at_).1 := ⟨_, rfl⟩
          have HP := Lib.hid (fun (v : World) (hv : Tw D w v G F s R F2 s) => KK.out.give v G F s Aa na ca at_ hv.p HO.out (HA3.out.grow hv.gr) HA1.out ha2 (by omega) HA4.out (off_p hv HA3.out).1)
          have HR := Lib.hid (fun (v : World) (F' : Nat → Prop) (hv : Tw D w v G F' s1 R F2 s) => rGive (c := ca) hv.r FS.out.1 (HA3.out.grow hv.gr) HA1.out ha2 (by omega) FS.out.2 (off_p hv HA3.out).2)
          rw [← hs1] at OO LL
          rw [← hs1, ← her] at HP HR
          clear hs1 her HO HB FS
          generalize hvd : va.drew = vd
          have ZD := Lib.hid (show Tw D w vd G F s R F2 s by rw [← hvd]; exact ZA.out.grow KK.out ((Below.refl _ va).drew))
          have BD := Lib.hid (show Bs vd F F2 a (acO 2 Aa na ca) by rw [← hvd]; exact BA.out.grow ((Below.refl _ va).drew))
          clear ZA BA
          refine restS_begin (SA a 2 Aa na ca) (by kernel_rfl) ?_
          rw [hvd]
          clear hvd
          refine restS_take (i := 0) (sa_of BD.out) rfl (by kernel_rfl) (by kernel_rfl) (by kernel_rfl) (by rfl) (fun v hv => by obtain ⟨s0, s1⟩ := hv; go_simp; try with_reducible rfl) ?_
          try simp only [Act.put, List.setIfInBounds_toArray, List.set_cons_zero, List.set_cons_succ]
          refine restS_take (i := 1) (sa_of BD.out) rfl (by kernel_rfl) (by kernel_rfl) (by kernel_rfl) (by rfl) (fun v hv => by obtain ⟨s0, s1⟩ := hv; go_simp; try with_reducible rfl) ?_
          try simp only [Act.put, List.setIfInBounds_toArray, List.set_cons_zero, List.set_cons_succ]
          refine restS_take (i := 2) (sa_of BD.out) rfl (by kernel_rfl) (by kernel_rfl) (by kernel_rfl) (by rfl) (fun v hv => by obtain ⟨s0, s1⟩ := hv; go_simp; try with_reducible rfl) ?_
          try simp only [Act.put, List.setIfInBounds_toArray, List.set_cons_zero, List.set_cons_succ]
          refine restS_take (i := 4) (sa_of BD.out) rfl (by kernel_rfl) (by kernel_rfl) (by kernel_rfl) (by rfl) (fun v hv => by obtain ⟨s0, s1⟩ := hv; go_simp; try with_reducible rfl) ?_
          try simp only [Act.put, List.setIfInBounds_toArray, List.set_cons_zero, List.set_cons_succ]
          refine restS_take (i := 5) (sa_of BD.out) rfl (by kernel_rfl) (by kernel_rfl) (by kernel_rfl) (by rfl) (fun v hv => by obtain ⟨s0, s1⟩ := hv; go_simp; try with_reducible rfl) ?_
          try simp only [Act.put, List.setIfInBounds_toArray, List.set_cons_zero, List.set_cons_succ]
          refine restS_take (i := 6) (sa_of BD.out) rfl (by kernel_rfl) (by kernel_rfl) (by kernel_rfl) (by rfl) (fun v hv => by obtain ⟨s0, s1⟩ := hv; go_simp; try with_reducible rfl) ?_
          try simp only [Act.put, List.setIfInBounds_toArray, List.set_cons_zero, List.set_cons_succ]
          refine restS_lone (i := 3) rfl (by kernel_rfl) (by rfl) (fun K hK => ?_)
          go_simp
          refine (HP.out vd ZD.out).mono ?_
          rintro e v1 ⟨rfl, h1⟩
          obtain ⟨FP, hz, hb⟩ := ZD.out.prog h1
          have Z1 := Lib.hid hz
          have B1 := Lib.hid (hb _ _ BD.out)
          clear h1 hz hb ZD BD HP
          refine hK.out _ _ (sa_of B1.out) ?_
          clear hK K
          try simp only [Act.put, List.setIfInBounds_toArray, List.set_cons_zero, List.set_cons_succ]
          refine restS_lone (i := 7) rfl (by kernel_rfl) (by rfl) (fun K hK => ?_)
          go_simp
          refine (HR.out v1 FP Z1.out).mono ?_
          rintro e v2 ⟨rfl, h2⟩
          obtain ⟨FR, hz, hb⟩ := Z1.out.ref KK.out h2
          have ZZ := Lib.hid hz
          have BZ := Lib.hid (hb _ _ B1.out)
          clear h2 hz hb Z1 B1 HR
          refine hK.out _ _ (sa_of BZ.out) ?_
          clear hK K
          try simp only [Act.put, List.setIfInBounds_toArray, List.set_cons_zero, List.set_cons_succ]
          refine restS_take (i := 8) (sa_of BZ.out) rfl (by kernel_rfl) (by kernel_rfl) (by kernel_rfl) (by rfl) (fun v hv => by go_simp; try with_reducible rfl) ?_
          try simp only [Act.put, List.setIfInBounds_toArray, List.set_cons_zero, List.set_cons_succ]
          refine restS_take (i := 9) (sa_of BZ.out) rfl (by kernel_rfl) (by kernel_rfl) (by kernel_rfl) (by rfl) (fun v hv => by go_simp; try with_reducible rfl) ?_
          try simp only [Act.put, List.setIfInBounds_toArray, List.set_cons_zero, List.set_cons_succ]
          refine restS_done (by kernel_rfl) ?_
          go_wp2_with fail
          generalize v2 = vz at ZZ BZ ⊢
          have FW := Lib.hid (OO.out.few (by rw [LL.out.1, LL.out.2]; exact h60'))
          obtain ⟨Au, Ag, hsv, _⟩ := ZZ.out.r
          obtain ⟨cu, cg, l1, l2, q0, q1, q2, q3, r1, r2⟩ := hsv.cells
          obtain ⟨nu, hnu⟩ : ∃ nu, nu = s1.used.length := ⟨_, rfl⟩
          rw [← hnu] at q2
          have HNU := Lib.hid hnu
          have hnu60 : nu ≤ 60 := by rw [hnu]; have := FW.out.2; omega
          have RV := Lib.hid (show ∀ v : World, Grown vz v → v.cell? ⟨R, 2, none⟩ = some (.slice Au nu cu) ∧ RdZ v v.heap.size Au s1.used from fun v hv => ⟨(hv.cell (p := ⟨R, 2, none⟩) (World.block_lt_of_cell? vz _ q2)).trans q2, r1.grow hv⟩)
          have HRF := Lib.hid (fun (v : World) (hv : Grown vz v) => refFreeN_any (hsv.grow hv) FW.out.1)
          clear hsv l1 l2 q0 q1 q2 q3 r1 r2 hnu
          have GD := Lib.hid (show Grown vz vz.drew from (Below.refl _ vz).drew)
          have S0 := Lib.hid (RV.out _ GD.out).1
          refine restS_begin (fun v : World => v.cell? ⟨R, 2, none⟩ = some (.slice Au nu cu)) (by kernel_rfl) ?_
          generalize vz.drew = vd at GD S0 ⊢
          refine restS_take (i := 0) S0.out rfl (by kernel_rfl) (by kernel_rfl) (by kernel_rfl) (by rfl) (fun v hv => by go_simp; try with_reducible rfl) ?_
          try simp only [Act.put, List.setIfInBounds_toArray, List.set_cons_zero, List.set_cons_succ]
          refine restS_take (i := 1) S0.out rfl (by kernel_rfl) (by kernel_rfl) (by kernel_rfl) (by rfl) (fun v hv => by go_simp; try with_reducible rfl) ?_
          try simp only [Act.put, List.setIfInBounds_toArray, List.set_cons_zero, List.set_cons_succ]
          refine restS_take (i := 2) S0.out rfl (by kernel_rfl) (by kernel_rfl) (by kernel_rfl) (by rfl) (fun v hv => by go_simp; try with_reducible rfl) ?_
          try simp only [Act.put, List.setIfInBounds_toArray, List.set_cons_zero, List.set_cons_succ]
          refine restS_take (i := 3) S0.out rfl (by kernel_rfl) (by kernel_rfl) (by kernel_rfl) (by rfl) (fun v hv => by go_simp; try with_reducible rfl) ?_
          try simp only [Act.put, List.setIfInBounds_toArray, List.set_cons_zero, List.set_cons_succ]
          refine restS_take (i := 5) S0.out rfl (by kernel_rfl) (by kernel_rfl) (by kernel_rfl) (by rfl) (fun v hv => by go_simp; try with_reducible rfl) ?_
          try simp only [Act.put, List.setIfInBounds_toArray, List.set_cons_zero, List.set_cons_succ]
          refine restS_lone (i := 4) rfl (by kernel_rfl) (by rfl) (fun K hK => ?_)
          go_simp
          refine (KK.out.free vd G FP s1 (ZZ.out.grow KK.out GD.out).p OO.out).mono ?_
          rintro e v3 ⟨rfl, hg3⟩
          have G3 := Lib.hid (GD.out.trans hg3)
          have S3 := Lib.hid (RV.out v3 G3.out).1
          clear hg3
          refine hK.out _ _ S3.out ?_
          clear hK K
          try simp only [Act.put, List.setIfInBounds_toArray, List.set_cons_zero, List.set_cons_succ]
          refine restS_lone (i := 6) rfl (by kernel_rfl) (by rfl) (fun K hK => ?_)
          go_simp
          refine (HRF.out v3 G3.out).mono ?_
          rintro e v4 ⟨rfl, hg4⟩
          have G4 := Lib.hid (G3.out.trans hg4)
          have S4 := Lib.hid (RV.out v4 G4.out).1
          clear hg4 HRF
          refine hK.out _ _ S4.out ?_
          clear hK K
          try simp only [Act.put, List.setIfInBounds_toArray, List.set_cons_zero, List.set_cons_succ]
          refine restS_take (i := 7) S4.out rfl (by kernel_rfl) (by kernel_rfl) (by kernel_rfl) (by rfl) (fun v hv => by go_simp; try with_reducible rfl) ?_
          try simp only [Act.put, List.setIfInBounds_toArray, List.set_cons_zero, List.set_cons_succ]
          refine restS_take (i := 8) S4.out rfl (by kernel_rfl) (by kernel_rfl) (by kernel_rfl) (by rfl) (fun v hv => by go_simp; try with_reducible rfl) ?_
          try simp only [Act.put, List.setIfInBounds_toArray, List.set_cons_zero, List.set_cons_succ]
          refine restS_take (i := 9) S4.out rfl (by kernel_rfl) (by kernel_rfl) (by kernel_rfl) (by rfl) (fun v hv => by go_simp; try with_reducible rfl) ?_
          try simp only [Act.put, List.setIfInBounds_toArray, List.set_cons_zero, List.set_cons_succ]
          refine restS_take (i := 10) S4.out rfl (by kernel_rfl) (by kernel_rfl) (by kernel_rfl) (by rfl) (fun v hv => by go_simp; try with_reducible rfl) ?_
          try simp only [Act.put, List.setIfInBounds_toArray, List.set_cons_zero, List.set_cons_succ]
          refine restS_take (i := 12) S4.out rfl (by kernel_rfl) (by kernel_rfl) (by kernel_rfl) (by rfl) (fun v hv => by go_simp; try with_reducible rfl) ?_
          try simp only [Act.put, List.setIfInBounds_toArray, List.set_cons_zero, List.set_cons_succ]
          refine restS_take (i := 13) S4.out rfl (by kernel_rfl) (by kernel_rfl) (by kernel_rfl) (by rfl) (fun v hv => by go_simp; try with_reducible rfl) ?_
          try simp only [Act.put, List.setIfInBounds_toArray, List.set_cons_zero, List.set_cons_succ]
          refine restS_take (i := 14) S4.out rfl (by kernel_rfl) (by kernel_rfl) (by kernel_rfl) (by rfl) (fun v hv => by go_simp; try with_reducible rfl) ?_
          try simp only [Act.put, List.setIfInBounds_toArray, List.set_cons_zero, List.set_cons_succ]
          refine restS_take (i := 15) S4.out rfl (by kernel_rfl) (by kernel_rfl) (by kernel_rfl) (by rfl) (fun v hv => by go_simp; try with_reducible rfl) ?_
          try simp only [Act.put, List.setIfInBounds_toArray, List.set_cons_zero, List.set_cons_succ]
          refine restS_lone (i := 11) rfl (by kernel_rfl) (by rfl) (fun K hK => ?_)
          go_simp
          refine (KK.out.used v4 G FP s1 (ZZ.out.grow KK.out G4.out).p OO.out).mono ?_
          rintro e v5 ⟨Ax, mx, cx, rfl, hmx, hcx, hrx, hg5, _⟩
          obtain rfl : nu = mx := by rw [HNU.out]; exact hmx
          have G5 := Lib.hid (G4.out.trans hg5)
          have S5 := Lib.hid (RV.out v5 G5.out).1
          have HIn := Lib.hid (refInts_any (c := cx) (c2 := cu) hrx hmx (by omega) (RV.out v5 G5.out).2 HNU.out.symm (by omega))
          rw [decide_eq_true (rfl : s1.used = s1.used)] at HIn
          clear hg5 hmx hcx hrx
          refine hK.out _ _ S5.out ?_
          clear hK K
          try simp only [Act.put, List.setIfInBounds_toArray, List.set_cons_zero, List.set_cons_succ]
          refine restS_lone (i := 16) rfl (by kernel_rfl) (by rfl) (fun K hK => ?_)
          go_simp
          refine HIn.out.mono ?_
          rintro e v6 ⟨rfl, hg6⟩
          have G6 := Lib.hid (G5.out.trans hg6)
          have S6 := Lib.hid (RV.out v6 G6.out).1
          clear hg6 HIn
          refine hK.out _ _ S6.out ?_
          clear hK K
          try simp only [Act.put, List.setIfInBounds_toArray, List.set_cons_zero, List.set_cons_succ]
          refine restS_take (i := 17) S6.out rfl (by kernel_rfl) (by kernel_rfl) (by kernel_rfl) (by rfl) (fun v hv => by go_simp; try with_reducible rfl) ?_
          try simp only [Act.put, List.setIfInBounds_toArray, List.set_cons_zero, List.set_cons_succ]
          refine restS_take (i := 18) S6.out rfl (by kernel_rfl) (by kernel_rfl) (by kernel_rfl) (by rfl) (fun v hv => by go_simp; try with_reducible rfl) ?_
          try simp only [Act.put, List.setIfInBounds_toArray, List.set_cons_zero, List.set_cons_succ]
          refine restS_done (by kernel_rfl) ?_
          have Z6 := Lib.hid (ZZ.out.grow KK.out G6.out)
          have B6 := Lib.hid (BZ.out.grow G6.out)
          clear S0 S3 S4 S5 S6 GD G3 G4 G5 G6 RV ZZ BZ
          go_wp2_with fail
          go_loopw [17] (fun v17 wq => ∃ (q : Nat), v17 = .int .i64 (q : Int) ∧ q ≤ na ∧ Hid (Tw D w wq G FP s1 R FR s1) ∧ Hid (Bs wq FP FR a (acO 2 Aa na ca))) (fun v17 _ => na - (intOf v17).toNat)
          case atStart => exact ⟨0, rfl, Nat.zero_le _, Z6.out, B6.out⟩
          case round =>
            clear Z6 B6
            obtain ⟨q, rfl, hq, HZ, HBs⟩ := hrel
            obtain ⟨sa0, sa1⟩ := sa_of HBs.out
            by_cases hqn : q < na
            · have bq : (q : Int) < (na : Int) := by omega
              obtain ⟨x, hx⟩ : ∃ x, x = at_[q]'(by rw [HA1.out]; exact hqn) := ⟨_, rfl⟩
              have hxr : Ir x := by rw [hx]; exact HA4.out _ (List.getElem_mem _)
              obtain ⟨bx, ox, hAe, hbx, hcx⟩ := HA3.out.at_ (k := q) (by rw [HA1.out]; exact hqn)
              rw [← hx] at hcx
              have HIs := Lib.hid (fun (v : World) (hv : Tw D w v G FP s1 R FR s1) => KK.out.is_ v G FP s1 x hv.p OO.out hxr)
              subst hAe
              have hcx' := (HZ.out.gr.cell (p := ⟨bx, ox + q, none⟩) hbx).trans hcx
              go_wp2_with fail
              obtain ⟨Au2, Ag2, hsv, _⟩ := HZ.out.r
              obtain ⟨cu2, cg2, l1, l2, q0, q1, q2, q3, r1, r2⟩ := hsv.cells
              rw [← HNU.out] at q2
              have RW := Lib.hid (show ∀ v : World, Grown wr v → v.cell? ⟨R, 2, none⟩ = some (.slice Au2 nu cu2) ∧ v.cell? ⟨a, 1, none⟩ = some (.slice (some ⟨bx, ox, none⟩) na ca) ∧ v.cell? ⟨bx, ox + q, none⟩ = some (.int .i64 x) ∧ RdZ v v.heap.size Au2 s1.used from fun v hv => ⟨(hv.cell (p := ⟨R, 2, none⟩) (World.block_lt_of_cell? wr _ q2)).trans q2, (hv.cell (p := ⟨a, 1, none⟩) (World.block_lt_of_cell? wr _ sa1)).trans sa1, (hv.cell (p := ⟨bx, ox + q, none⟩) (World.block_lt_of_cell? wr _ hcx')).trans hcx', r1.grow hv⟩)
              clear hsv l1 l2 q0 q1 q2 q3 r1 r2 sa0 sa1 hcx hcx' hx
              go_loopw [18, 19] (fun v18 v19 wy => ∃ (j : Nat) (t : Bool), v18 = .bool t ∧ v19 = .int .i64 (j : Int) ∧ j ≤ nu ∧ Hid (t = (s1.used.take j).contains x) ∧ Hid (Grown wr wy)) (fun _ v19 _ => nu - (intOf v19).toNat)
              case atStart => exact ⟨0, false, rfl, rfl, Nat.zero_le _, rfl, Grown.refl _⟩
              case round =>
                obtain ⟨j, t, rfl, rfl, hj, HT, HG⟩ := hrel
                obtain ⟨p0, p1, p2, p3⟩ := RW.out _ HG.out
                by_cases hjn : j < nu
                · have bj : (j : Int) < (nu : Int) := by omega
                  have hju : j < s1.used.length := by rw [← HNU.out]; exact hjn
                  obtain ⟨y, hy⟩ : ∃ y, y = s1.used[j] := ⟨_, rfl⟩
                  obtain ⟨b6, o6, hAu, hb6, hc6⟩ := p3.at_ hju
                  rw [← hy] at hc6
                  have HTn := Lib.hid (show (t || (y == x)) = (s1.used.take (j + 1)).contains x by rw [take_has _ _ _ hju, ← HT.out, hy])
                  subst hAu
                  clear hy hju p3 HT
                  have GD := Lib.hid (show Grown _ wr.drew from Grown.trans HG.out (Below.refl _ wr).drew)
                  have S0 := Lib.hid (show wr.drew.cell? ⟨R, 2, none⟩ = some (.slice (some ⟨b6, o6, none⟩) nu cu2) ∧ wr.drew.cell? ⟨a, 1, none⟩ = some (.slice (some ⟨bx, ox, none⟩) na ca) ∧ wr.drew.cell? ⟨bx, ox + q, none⟩ = some (.int .i64 x) ∧ wr.drew.cell? ⟨b6, o6 + j, none⟩ = some (.int .i64 y) from ⟨p0, p1, p2, hc6⟩)
                  clear p1 p2 hc6
                  go_wp2_with fail
                  clear p0
                  refine restS_begin (fun v : World => v.cell? ⟨R, 2, none⟩ = some (.slice (some ⟨b6, o6, none⟩) nu cu2) ∧ v.cell? ⟨a, 1, none⟩ = some (.slice (some ⟨bx, ox, none⟩) na ca) ∧ v.cell? ⟨bx, ox + q, none⟩ = some (.int .i64 x) ∧ v.cell? ⟨b6, o6 + j, none⟩ = some (.int .i64 y)) (by kernel_rfl) ?_
                  generalize wr.drew = wd at GD S0 ⊢
                  cases t with
                  | true =>
                    refine restS_take (i := 0) S0.out rfl (by kernel_rfl) (by kernel_rfl) (by kernel_rfl) (by rfl) (fun v hv => by go_simp; try with_reducible rfl) ?_
                    try simp only [Act.put, List.setIfInBounds_toArray, List.set_cons_zero, List.set_cons_succ]
                    refine restS_take (i := 1) S0.out rfl (by kernel_rfl) (by kernel_rfl) (by kernel_rfl) (by rfl) (fun v hv => by go_simp; try with_reducible rfl) ?_
                    try simp only [Act.put, List.setIfInBounds_toArray, List.set_cons_zero, List.set_cons_succ]
                    refine restS_pass (i := 2) S0.out rfl (by kernel_rfl) (by kernel_rfl) (by kernel_rfl) (by rfl) ?_
                    try simp only [Act.put, List.setIfInBounds_toArray, List.set_cons_zero, List.set_cons_succ]
                    refine restS_pass (i := 3) S0.out rfl (by kernel_rfl) (by kernel_rfl) (by kernel_rfl) (by rfl) ?_
                    try simp only [Act.put, List.setIfInBounds_toArray, List.set_cons_zero, List.set_cons_succ]
                    refine restS_pass (i := 4) S0.out rfl (by kernel_rfl) (by kernel_rfl) (by kernel_rfl) (by rfl) ?_
                    try simp only [Act.put, List.setIfInBounds_toArray, List.set_cons_zero, List.set_cons_succ]
                    refine restS_pass (i := 5) S0.out rfl (by kernel_rfl) (by kernel_rfl) (by kernel_rfl) (by rfl) ?_
                    try simp only [Act.put, List.setIfInBounds_toArray, List.set_cons_zero, List.set_cons_succ]
                    refine restS_pass (i := 6) S0.out rfl (by kernel_rfl) (by kernel_rfl) (by kernel_rfl) (by rfl) ?_
                    try simp only [Act.put, List.setIfInBounds_toArray, List.set_cons_zero, List.set_cons_succ]
                    refine restS_pass (i := 7) S0.out rfl (by kernel_rfl) (by kernel_rfl) (by kernel_rfl) (by rfl) ?_
                    try simp only [Act.put, List.setIfInBounds_toArray, List.set_cons_zero, List.set_cons_succ]
                    refine restS_pass (i := 8) S0.out rfl (by kernel_rfl) (by kernel_rfl) (by kernel_rfl) (by rfl) ?_
                    try simp only [Act.put, List.setIfInBounds_toArray, List.set_cons_zero, List.set_cons_succ]
                    refine restS_pass (i := 9) S0.out rfl (by kernel_rfl) (by kernel_rfl) (by kernel_rfl) (by rfl) ?_
                    try simp only [Act.put, List.setIfInBounds_toArray, List.set_cons_zero, List.set_cons_succ]
                    refine restS_pass (i := 10) S0.out rfl (by kernel_rfl) (by kernel_rfl) (by kernel_rfl) (by rfl) ?_
                    try simp only [Act.put, List.setIfInBounds_toArray, List.set_cons_zero, List.set_cons_succ]
                    refine restS_pass (i := 11) S0.out rfl (by kernel_rfl) (by kernel_rfl) (by kernel_rfl) (by rfl) ?_
                    try simp only [Act.put, List.setIfInBounds_toArray, List.set_cons_zero, List.set_cons_succ]
                    refine restS_pass (i := 12) S0.out rfl (by kernel_rfl) (by kernel_rfl) (by kernel_rfl) (by rfl) ?_
                    try simp only [Act.put, List.setIfInBounds_toArray, List.set_cons_zero, List.set_cons_succ]
                    refine restS_pass (i := 13) S0.out rfl (by kernel_rfl) (by kernel_rfl) (by kernel_rfl) (by rfl) ?_
                    try simp only [Act.put, List.setIfInBounds_toArray, List.set_cons_zero, List.set_cons_succ]
                    refine restS_pass (i := 14) S0.out rfl (by kernel_rfl) (by kernel_rfl) (by kernel_rfl) (by rfl) ?_
                    try simp only [Act.put, List.setIfInBounds_toArray, List.set_cons_zero, List.set_cons_succ]
                    refine restS_take (i := 15) S0.out rfl (by kernel_rfl) (by kernel_rfl) (by kernel_rfl) (by rfl) (fun v hv => by go_simp; try with_reducible rfl) ?_
                    try simp only [Act.put, List.setIfInBounds_toArray, List.set_cons_zero, List.set_cons_succ]
                    refine restS_take (i := 16) S0.out rfl (by kernel_rfl) (by kernel_rfl) (by kernel_rfl) (by rfl) (fun v hv => by go_simp; try with_reducible rfl) ?_
                    try simp only [Act.put, List.setIfInBounds_toArray, List.set_cons_zero, List.set_cons_succ]
                    refine restS_done (by kernel_rfl) ?_
                    go_wp2
                    exact ⟨⟨j + 1, true, rfl, by simp, by omega, HTn.out, GD.out⟩, by simp [intOf]; omega⟩
                  | false =>
                    refine restS_take (i := 0) S0.out rfl (by kernel_rfl) (by kernel_rfl) (by kernel_rfl) (by rfl) (fun v hv => by obtain ⟨s0, s1, s2, s3⟩ := hv; go_simp; try with_reducible rfl) ?_
                    try simp only [Act.put, List.setIfInBounds_toArray, List.set_cons_zero, List.set_cons_succ]
                    refine restS_take (i := 1) S0.out rfl (by kernel_rfl) (by kernel_rfl) (by kernel_rfl) (by rfl) (fun v hv => by obtain ⟨s0, s1, s2, s3⟩ := hv; go_simp; try with_reducible rfl) ?_
                    try simp only [Act.put, List.setIfInBounds_toArray, List.set_cons_zero, List.set_cons_succ]
                    refine restS_take (i := 2) S0.out rfl (by kernel_rfl) (by kernel_rfl) (by kernel_rfl) (by rfl) (fun v hv => by obtain ⟨s0, s1, s2, s3⟩ := hv; go_simp; try with_reducible rfl) ?_
                    try simp only [Act.put, List.setIfInBounds_toArray, List.set_cons_zero, List.set_cons_succ]
                    refine restS_take (i := 3) S0.out rfl (by kernel_rfl) (by kernel_rfl) (by kernel_rfl) (by rfl) (fun v hv => by obtain ⟨s0, s1, s2, s3⟩ := hv; go_simp; try with_reducible rfl) ?_
                    try simp only [Act.put, List.setIfInBounds_toArray, List.set_cons_zero, List.set_cons_succ]
                    refine restS_take (i := 4) S0.out rfl (by kernel_rfl) (by kernel_rfl) (by kernel_rfl) (by rfl) (fun v hv => by obtain ⟨s0, s1, s2, s3⟩ := hv; go_simp; try with_reducible rfl) ?_
                    try simp only [Act.put, List.setIfInBounds_toArray, List.set_cons_zero, List.set_cons_succ]
                    refine restS_take (i := 5) S0.out rfl (by kernel_rfl) (by kernel_rfl) (by kernel_rfl) (by rfl) (fun v hv => by obtain ⟨s0, s1, s2, s3⟩ := hv; go_simp; try with_reducible rfl) ?_
                    try simp only [Act.put, List.setIfInBounds_toArray, List.set_cons_zero, List.set_cons_succ]
                    refine restS_take (i := 6) S0.out rfl (by kernel_rfl) (by kernel_rfl) (by kernel_rfl) (by rfl) (fun v hv => by obtain ⟨s0, s1, s2, s3⟩ := hv; go_simp; try with_reducible rfl) ?_
                    try simp only [Act.put, List.setIfInBounds_toArray, List.set_cons_zero, List.set_cons_succ]
                    refine restS_take (i := 7) S0.out rfl (by kernel_rfl) (by kernel_rfl) (by kernel_rfl) (by rfl) (fun v hv => by obtain ⟨s0, s1, s2, s3⟩ := hv; go_simp; try with_reducible rfl) ?_
                    try simp only [Act.put, List.setIfInBounds_toArray, List.set_cons_zero, List.set_cons_succ]
                    refine restS_take (i := 8) S0.out rfl (by kernel_rfl) (by kernel_rfl) (by kernel_rfl) (by rfl) (fun v hv => by obtain ⟨s0, s1, s2, s3⟩ := hv; go_simp; try with_reducible rfl) ?_
                    try simp only [Act.put, List.setIfInBounds_toArray, List.set_cons_zero, List.set_cons_succ]
                    refine restS_take (i := 9) S0.out rfl (by kernel_rfl) (by kernel_rfl) (by kernel_rfl) (by rfl) (fun v hv => by obtain ⟨s0, s1, s2, s3⟩ := hv; go_simp; try with_reducible rfl) ?_
                    try simp only [Act.put, List.setIfInBounds_toArray, List.set_cons_zero, List.set_cons_succ]
                    refine restS_take (i := 10) S0.out rfl (by kernel_rfl) (by kernel_rfl) (by kernel_rfl) (by rfl) (fun v hv => by obtain ⟨s0, s1, s2, s3⟩ := hv; go_simp; try with_reducible rfl) ?_
                    try simp only [Act.put, List.setIfInBounds_toArray, List.set_cons_zero, List.set_cons_succ]
                    refine restS_take (i := 11) S0.out rfl (by kernel_rfl) (by kernel_rfl) (by kernel_rfl) (by rfl) (fun v hv => by obtain ⟨s0, s1, s2, s3⟩ := hv; go_simp; try with_reducible rfl) ?_
                    try simp only [Act.put, List.setIfInBounds_toArray, List.set_cons_zero, List.set_cons_succ]
                    refine restS_take (i := 12) S0.out rfl (by kernel_rfl) (by kernel_rfl) (by kernel_rfl) (by rfl) (fun v hv => by obtain ⟨s0, s1, s2, s3⟩ := hv; go_simp; try with_reducible rfl) ?_
                    try simp only [Act.put, List.setIfInBounds_toArray, List.set_cons_zero, List.set_cons_succ]
                    refine restS_take (i := 13) S0.out rfl (by kernel_rfl) (by kernel_rfl) (by kernel_rfl) (by rfl) (fun v hv => by obtain ⟨s0, s1, s2, s3⟩ := hv; go_simp; try with_reducible rfl) ?_
                    try simp only [Act.put, List.setIfInBounds_toArray, List.set_cons_zero, List.set_cons_succ]
                    refine restS_take (i := 14) S0.out rfl (by kernel_rfl) (by kernel_rfl) (by kernel_rfl) (by rfl) (fun v hv => by obtain ⟨s0, s1, s2, s3⟩ := hv; go_simp; try with_reducible rfl) ?_
                    try simp only [Act.put, List.setIfInBounds_toArray, List.set_cons_zero, List.set_cons_succ]
                    refine restS_take (i := 15) S0.out rfl (by kernel_rfl) (by kernel_rfl) (by kernel_rfl) (by rfl) (fun v hv => by obtain ⟨s0, s1, s2, s3⟩ := hv; go_simp; try with_reducible rfl) ?_
                    try simp only [Act.put, List.setIfInBounds_toArray, List.set_cons_zero, List.set_cons_succ]
                    refine restS_take (i := 16) S0.out rfl (by kernel_rfl) (by kernel_rfl) (by kernel_rfl) (by rfl) (fun v hv => by obtain ⟨s0, s1, s2, s3⟩ := hv; go_simp; try with_reducible rfl) ?_
                    try simp only [Act.put, List.setIfInBounds_toArray, List.set_cons_zero, List.set_cons_succ]
                    refine restS_done (by kernel_rfl) ?_
                    go_wp2
                    exact ⟨⟨j + 1, y == x, by simp, by simp, by omega, HTn.out, GD.out⟩, by simp [intOf]; omega⟩
                · have bj : ¬ (j : Int) < (nu : Int) := by omega
                  have HTn := Lib.hid (show t = s1.used.contains x by rw [HT.out, List.take_of_length_le (by rw [← HNU.out]; omega)])
                  clear HT
                  clear p3
                  go_wp2_with fail
                  refine (HIs.out _ (HZ.out.grow KK.out HG.out)).mono ?_
                  rintro e w9 ⟨rfl, hg9⟩
                  rw [← HTn.out]
                  have Z9 := Lib.hid ((HZ.out.grow KK.out HG.out).grow KK.out hg9)
                  have B9 := Lib.hid ((HBs.out.grow HG.out).grow hg9)
                  clear hg9
                  go_wp2
                  exact ⟨⟨q + 1, by simp, by omega, Z9.out, B9.out⟩, by simp [intOf]; omega⟩
            · have bq : ¬ (q : Int) < (na : Int) := by omega
              go_wp2
              exact ⟨⟨i + 1, FP, FR, s1, by simp, by omega, OO.out, LL.out, HZ.out⟩, by simp [intOf]; omega⟩
      · as_aux_lemma =>
          have ZA := Lib.hid (HZ.out.grow KK.out (alloc_below wr (.cells #[.int .i64 3, .slice Aa na ca] 34)))
          have BA := Lib.hid (show Bs (wr.alloc (.cells #[.int .i64 3, .slice Aa na ca] 34)) F F2 wr.heap.size (acO 3 Aa na ca) from Bs.new KK.out HZ.out _)
          have FS := Lib.hid (HO.out.few (by rw [HB.out.1, HB.out.2]; exact h60'))
          clear HZ
          go_wp2_with fail
          obtain ⟨a, ha⟩ : ∃ a, a = wr.heap.size := ⟨_, rfl⟩
          rw [← ha] at BA ⊢
          clear ha d0 d1
          generalize wr.alloc _ = va at ZA BA ⊢
          have OO := Lib.hid (ok_settle HO.out)
          have LL := Lib.hid (show (spSettle s).first = f ∧ (spSettle s).last = l from HB.out)
          obtain ⟨s1, hs1⟩ : ∃ s1, s1 = spSettle s := ⟨_, rfl⟩
          have HP := Lib.hid (KK.out.settle va G F s ZA.out.p HO.out)
          have HR := Lib.hid (fun (v : World) (F2 : Nat → Prop) (h : RS w.heap.size v R F2 s) => rSettle h)
          rw [← hs1] at OO LL HP HR
          clear hs1
          refine HP.out.mono ?_
          rintro e v1 ⟨rfl, h1⟩
          obtain ⟨FP, hz, hb⟩ := ZA.out.prog h1
          have Z1 := Lib.hid hz
          have B1 := Lib.hid (hb _ _ BA.out)
          clear h1 hz hb ZA BA HP
          obtain ⟨⟨u3, hu3⟩, hf3, h2⟩ := HR.out v1 F2 Z1.out.r
          obtain ⟨FR, hz, hb⟩ := Z1.out.ref KK.out h2
          have ZZ := Lib.hid hz
          have BZ := Lib.hid (hb _ _ B1.out)
          clear h2 hz hb Z1 B1 HR HO HB FS
          go_wp2_with fail
          clear hu3 hf3
          generalize v1.setCell _ _ = vz at ZZ BZ ⊢
          have FW := Lib.hid (OO.out.few (by rw [LL.out.1, LL.out.2]; exact h60'))
          obtain ⟨Au, Ag, hsv, _⟩ := ZZ.out.r
          obtain ⟨cu, cg, l1, l2, q0, q1, q2, q3, r1, r2⟩ := hsv.cells
          obtain ⟨nu, hnu⟩ : ∃ nu, nu = s1.used.length := ⟨_, rfl⟩
          rw [← hnu] at q2
          have HNU := Lib.hid hnu
          have hnu60 : nu ≤ 60 := by rw [hnu]; have := FW.out.2; omega
          have RV := Lib.hid (show ∀ v : World, Grown vz v → v.cell? ⟨R, 2, none⟩ = some (.slice Au nu cu) ∧ RdZ v v.heap.size Au s1.used from fun v hv => ⟨(hv.cell (p := ⟨R, 2, none⟩) (World.block_lt_of_cell? vz _ q2)).trans q2, r1.grow hv⟩)
          have HRF := Lib.hid (fun (v : World) (hv : Grown vz v) => refFreeN_any (hsv.grow hv) FW.out.1)
          clear hsv l1 l2 q0 q1 q2 q3 r1 r2 hnu
          have GD := Lib.hid (show Grown vz vz.drew from (Below.refl _ vz).drew)
          have S0 := Lib.hid (RV.out _ GD.out).1
          refine restS_begin (fun v : World => v.cell? ⟨R, 2, none⟩ = some (.slice Au nu cu)) (by kernel_rfl) ?_
          generalize vz.drew = vd at GD S0 ⊢
          refine restS_take (i := 0) S0.out rfl (by kernel_rfl) (by kernel_rfl) (by kernel_rfl) (by rfl) (fun v hv => by go_simp; try with_reducible rfl) ?_
          try simp only [Act.put, List.setIfInBounds_toArray, List.set_cons_zero, List.set_cons_succ]
          refine restS_take (i := 1) S0.out rfl (by kernel_rfl) (by kernel_rfl) (by kernel_rfl) (by rfl) (fun v hv => by go_simp; try with_reducible rfl) ?_
          try simp only [Act.put, List.setIfInBounds_toArray, List.set_cons_zero, List.set_cons_succ]
          refine restS_take (i := 2) S0.out rfl (by kernel_rfl) (by kernel_rfl) (by kernel_rfl) (by rfl) (fun v hv => by go_simp; try with_reducible rfl) ?_
          try simp only [Act.put, List.setIfInBounds_toArray, List.set_cons_zero, List.set_cons_succ]
          refine restS_take (i := 3) S0.out rfl (by kernel_rfl) (by kernel_rfl) (by kernel_rfl) (by rfl) (fun v hv => by go_simp; try with_reducible rfl) ?_
          try simp only [Act.put, List.setIfInBounds_toArray, List.set_cons_zero, List.set_cons_succ]
          refine restS_take (i := 5) S0.out rfl (by kernel_rfl) (by kernel_rfl) (by kernel_rfl) (by rfl) (fun v hv => by go_simp; try with_reducible rfl) ?_
          try simp only [Act.put, List.setIfInBounds_toArray, List.set_cons_zero, List.set_cons_succ]
          refine restS_lone (i := 4) rfl (by kernel_rfl) (by rfl) (fun K hK => ?_)
          go_simp
          refine (KK.out.free vd G FP s1 (ZZ.out.grow KK.out GD.out).p OO.out).mono ?_
          rintro e v3 ⟨rfl, hg3⟩
          have G3 := Lib.hid (GD.out.trans hg3)
          have S3 := Lib.hid (RV.out v3 G3.out).1
          clear hg3
          refine hK.out _ _ S3.out ?_
          clear hK K
          try simp only [Act.put, List.setIfInBounds_toArray, List.set_cons_zero, List.set_cons_succ]
          refine restS_lone (i := 6) rfl (by kernel_rfl) (by rfl) (fun K hK => ?_)
          go_simp
          refine (HRF.out v3 G3.out).mono ?_
          rintro e v4 ⟨rfl, hg4⟩
          have G4 := Lib.hid (G3.out.trans hg4)
          have S4 := Lib.hid (RV.out v4 G4.out).1
          clear hg4 HRF
          refine hK.out _ _ S4.out ?_
          clear hK K
          try simp only [Act.put, List.setIfInBounds_toArray, List.set_cons_zero, List.set_cons_succ]
          refine restS_take (i := 7) S4.out rfl (by kernel_rfl) (by kernel_rfl) (by kernel_rfl) (by rfl) (fun v hv => by go_simp; try with_reducible rfl) ?_
          try simp only [Act.put, List.setIfInBounds_toArray, List.set_cons_zero, List.set_cons_succ]
          refine restS_take (i := 8) S4.out rfl (by kernel_rfl) (by kernel_rfl) (by kernel_rfl) (by rfl) (fun v hv => by go_simp; try with_reducible rfl) ?_
          try simp only [Act.put, List.setIfInBounds_toArray, List.set_cons_zero, List.set_cons_succ]
          refine restS_take (i := 9) S4.out rfl (by kernel_rfl) (by kernel_rfl) (by kernel_rfl) (by rfl) (fun v hv => by go_simp; try with_reducible rfl) ?_
          try simp only [Act.put, List.setIfInBounds_toArray, List.set_cons_zero, List.set_cons_succ]
          refine restS_take (i := 10) S4.out rfl (by kernel_rfl) (by kernel_rfl) (by kernel_rfl) (by rfl) (fun v hv => by go_simp; try with_reducible rfl) ?_
          try simp only [Act.put, List.setIfInBounds_toArray, List.set_cons_zero, List.set_cons_succ]
          refine restS_take (i := 12) S4.out rfl (by kernel_rfl) (by kernel_rfl) (by kernel_rfl) (by rfl) (fun v hv => by go_simp; try with_reducible rfl) ?_
          try simp only [Act.put, List.setIfInBounds_toArray, List.set_cons_zero, List.set_cons_succ]
          refine restS_take (i := 13) S4.out rfl (by kernel_rfl) (by kernel_rfl) (by kernel_rfl) (by rfl) (fun v hv => by go_simp; try with_reducible rfl) ?_
          try simp only [Act.put, List.setIfInBounds_toArray, List.set_cons_zero, List.set_cons_succ]
          refine restS_take (i := 14) S4.out rfl (by kernel_rfl) (by kernel_rfl) (by kernel_rfl) (by rfl) (fun v hv => by go_simp; try with_reducible rfl) ?_
          try simp only [Act.put, List.setIfInBounds_toArray, List.set_cons_zero, List.set_cons_succ]
          refine restS_take (i := 15) S4.out rfl (by kernel_rfl) (by kernel_rfl) (by kernel_rfl) (by rfl) (fun v hv => by go_simp; try with_reducible rfl) ?_
          try simp only [Act.put, List.setIfInBounds_toArray, List.set_cons_zero, List.set_cons_succ]
          refine restS_lone (i := 11) rfl (by kernel_rfl) (by rfl) (fun K hK => ?_)
          go_simp
          refine (KK.out.used v4 G FP s1 (ZZ.out.grow KK.out G4.out).p OO.out).mono ?_
          rintro e v5 ⟨Ax, mx, cx, rfl, hmx, hcx, hrx, hg5, _⟩
          obtain rfl : nu = mx := by rw [HNU.out]; exact hmx
          have G5 := Lib.hid (G4.out.trans hg5)
          have S5 := Lib.hid (RV.out v5 G5.out).1
          have HIn := Lib.hid (refInts_any (c := cx) (c2 := cu) hrx hmx (by omega) (RV.out v5 G5.out).2 HNU.out.symm (by omega))
          rw [decide_eq_true (rfl : s1.used = s1.used)] at HIn
          clear hg5 hmx hcx hrx
          refine hK.out _ _ S5.out ?_
          clear hK K
          try simp only [Act.put, List.setIfInBounds_toArray, List.set_cons_zero, List.set_cons_succ]
          refine restS_lone (i := 16) rfl (by kernel_rfl) (by rfl) (fun K hK => ?_)
          go_simp
          refine HIn.out.mono ?_
          rintro e v6 ⟨rfl, hg6⟩
          have G6 := Lib.hid (G5.out.trans hg6)
          have S6 := Lib.hid (RV.out v6 G6.out).1
          clear hg6 HIn
          refine hK.out _ _ S6.out ?_
          clear hK K
          try simp only [Act.put, List.setIfInBounds_toArray, List.set_cons_zero, List.set_cons_succ]
          refine restS_take (i := 17) S6.out rfl (by kernel_rfl) (by kernel_rfl) (by kernel_rfl) (by rfl) (fun v hv => by go_simp; try with_reducible rfl) ?_
          try simp only [Act.put, List.setIfInBounds_toArray, List.set_cons_zero, List.set_cons_succ]
          refine restS_take (i := 18) S6.out rfl (by kernel_rfl) (by kernel_rfl) (by kernel_rfl) (by rfl) (fun v hv => by go_simp; try with_reducible rfl) ?_
          try simp only [Act.put, List.setIfInBounds_toArray, List.set_cons_zero, List.set_cons_succ]
          refine restS_done (by kernel_rfl) ?_
          have Z6 := Lib.hid (ZZ.out.grow KK.out G6.out)
          have B6 := Lib.hid (BZ.out.grow G6.out)
          clear S0 S3 S4 S5 S6 GD G3 G4 G5 G6 RV ZZ BZ
          go_wp2_with fail
          go_loopw [17] (fun v17 wq => ∃ (q : Nat), v17 = .int .i64 (q : Int) ∧ q ≤ na ∧ Hid (Tw D w wq G FP s1 R FR s1) ∧ Hid (Bs wq FP FR a (acO 3 Aa na ca))) (fun v17 _ => na - (intOf v17).toNat)
          case atStart => exact ⟨0, rfl, Nat.zero_le _, Z6.out, B6.out⟩
          case round =>
            clear Z6 B6
            obtain ⟨q, rfl, hq, HZ, HBs⟩ := hrel
            obtain ⟨sa0, sa1⟩ := sa_of HBs.out
            by_cases hqn : q < na
            · have bq : (q : Int) < (na : Int) := by omega
              obtain ⟨x, hx⟩ : ∃ x, x = at_[q]'(by rw [HA1.out]; exact hqn) := ⟨_, rfl⟩
              have hxr : Ir x := by rw [hx]; exact HA4.out _ (List.getElem_mem _)
              obtain ⟨bx, ox, hAe, hbx, hcx⟩ := HA3.out.at_ (k := q) (by rw [HA1.out]; exact hqn)
              rw [← hx] at hcx
              have HIs := Lib.hid (fun (v : World) (hv : Tw D w v G FP s1 R FR s1) => KK.out.is_ v G FP s1 x hv.p OO.out hxr)
              subst hAe
              have hcx' := (HZ.out.gr.cell (p := ⟨bx, ox + q, none⟩) hbx).trans hcx
              go_wp2_with fail
              obtain ⟨Au2, Ag2, hsv, _⟩ := HZ.out.r
              obtain ⟨cu2, cg2, l1, l2, q0, q1, q2, q3, r1, r2⟩ := hsv.cells
              rw [← HNU.out] at q2
              have RW := Lib.hid (show ∀ v : World, Grown wr v → v.cell? ⟨R, 2, none⟩ = some (.slice Au2 nu cu2) ∧ v.cell? ⟨a, 1, none⟩ = some (.slice (some ⟨bx, ox, none⟩) na ca) ∧ v.cell? ⟨bx, ox + q, none⟩ = some (.int .i64 x) ∧ RdZ v v.heap.size Au2 s1.used from fun v hv => ⟨(hv.cell (p := ⟨R, 2, none⟩) (World.block_lt_of_cell? wr _ q2)).trans q2, (hv.cell (p := ⟨a, 1, none⟩) (World.block_lt_of_cell? wr _ sa1)).trans sa1, (hv.cell (p := ⟨bx, ox + q, none⟩) (World.block_lt_of_cell? wr _ hcx')).trans hcx', r1.grow hv⟩)
              clear hsv l1 l2 q0 q1 q2 q3 r1 r2 sa0 sa1 hcx hcx' hx
              go_loopw [18, 19] (fun v18 v19 wy => ∃ (j : Nat) (t : Bool), v18 = .bool t ∧ v19 = .int .i64 (j : Int) ∧ j ≤ nu ∧ Hid (t = (s1.used.take j).contains x) ∧ Hid (Grown wr wy)) (fun _ v19 _ => nu - (intOf v19).toNat)
              case atStart => exact ⟨0, false, rfl, rfl, Nat.zero_le _, rfl, Grown.refl _⟩
              case round =>
                obtain ⟨j, t, rfl, rfl, hj, HT, HG⟩ := hrel
                obtain ⟨p0, p1, p2, p3⟩ := RW.out _ HG.out
                by_cases hjn : j < nu
                · have bj : (j : Int) < (nu : Int) := by omega
                  have hju : j < s1.used.length := by rw [← HNU.out]; exact hjn
                  obtain ⟨y, hy⟩ : ∃ y, y = s1.used[j] := ⟨_, rfl⟩
                  obtain ⟨b6, o6, hAu, hb6, hc6⟩ := p3.at_ hju
                  rw [← hy] at hc6
                  have HTn := Lib.hid (show (t || (y == x)) = (s1.used.take (j + 1)).contains x by rw [take_has _ _ _ hju, ← HT.out, hy])
                  subst hAu
                  clear hy hju p3 HT
                  have GD := Lib.hid (show Grown _ wr.drew from Grown.trans HG.out (Below.refl _ wr).drew)
                  have S0 := Lib.hid (show wr.drew.cell? ⟨R, 2, none⟩ = some (.slice (some ⟨b6, o6, none⟩) nu cu2) ∧ wr.drew.cell? ⟨a, 1, none⟩ = some (.slice (some ⟨bx, ox, none⟩) na ca) ∧ wr.drew.cell? ⟨bx, ox + q, none⟩ = some (.int .i64 x) ∧ wr.drew.cell? ⟨b6, o6 + j, none⟩ = some (.int .i64 y) from ⟨p0, p1, p2, hc6⟩)
                  clear p1 p2 hc6
                  go_wp2_with fail
                  clear p0
                  refine restS_begin (fun v : World => v.cell? ⟨R, 2, none⟩ = some (.slice (some ⟨b6, o6, none⟩) nu cu2) ∧ v.cell? ⟨a, 1, none⟩ = some (.slice (some ⟨bx, ox, none⟩) na ca) ∧ v.cell? ⟨bx, ox + q, none⟩ = some (.int .i64 x) ∧ v.cell? ⟨b6, o6 + j, none⟩ = some (.int .i64 y)) (by kernel_rfl) ?_
                  generalize wr.drew = wd at GD S0 ⊢
                  cases t with
                  | true =>
                    refine restS_take (i := 0) S0.out rfl (by kernel_rfl) (by kernel_rfl) (by kernel_rfl) (by rfl) (fun v hv => by go_simp; try with_reducible rfl) ?_
                    try simp only [Act.put, List.setIfInBounds_toArray, List.set_cons_zero, List.set_cons_succ]
                    refine restS_take (i := 1) S0.out rfl (by kernel_rfl) (by kernel_rfl) (by kernel_rfl) (by rfl) (fun v hv => by go_simp; try with_reducible rfl) ?_
                    try simp only [Act.put, List.setIfInBounds_toArray, List.set_cons_zero, List.set_cons_succ]
                    refine restS_pass (i := 2) S0.out rfl (by kernel_rfl) (by kernel_rfl) (by kernel_rfl) (by rfl) ?_
                    try simp only [Act.put, List.setIfInBounds_toArray, List.set_cons_zero, List.set_cons_succ]
                    refine restS_pass (i := 3) S0.out rfl (by kernel_rfl) (by kernel_rfl) (by kernel_rfl) (by rfl) ?_
                    try simp only [Act.put, List.setIfInBounds_toArray, List.set_cons_zero, List.set_cons_succ]
                    refine restS_pass (i := 4) S0.out rfl (by kernel_rfl) (by kernel_rfl) (by kernel_rfl) (by rfl) ?_
                    try simp only [Act.put, List.setIfInBounds_toArray, List.set_cons_zero, List.set_cons_succ]
                    refine restS_pass (i := 5) S0.out rfl (by kernel_rfl) (by kernel_rfl) (by kernel_rfl) (by rfl) ?_
                    try simp only [Act.put, List.setIfInBounds_toArray, List.set_cons_zero, List.set_cons_succ]
                    refine restS_pass (i := 6) S0.out rfl (by kernel_rfl) (by kernel_rfl) (by kernel_rfl) (by rfl) ?_
                    try simp only [Act.put, List.setIfInBounds_toArray, List.set_cons_zero, List.set_cons_succ]
                    refine restS_pass (i := 7) S0.out rfl (by kernel_rfl) (by kernel_rfl) (by kernel_rfl) (by rfl) ?_
                    try simp only [Act.put, List.setIfInBounds_toArray, List.set_cons_zero, List.set_cons_succ]
                    refine restS_pass (i := 8) S0.out rfl (by kernel_rfl) (by kernel_rfl) (by kernel_rfl) (by rfl) ?_
                    try simp only [Act.put, List.setIfInBounds_toArray, List.set_cons_zero, List.set_cons_succ]
                    refine restS_pass (i := 9) S0.out rfl (by kernel_rfl) (by kernel_rfl) (by kernel_rfl) (by rfl) ?_
                    try simp only [Act.put, List.setIfInBounds_toArray, List.set_cons_zero, List.set_cons_succ]
                    refine restS_pass (i := 10) S0.out rfl (by kernel_rfl) (by kernel_rfl) (by kernel_rfl) (by rfl) ?_
                    try simp only [Act.put, List.setIfInBounds_toArray, List.set_cons_zero, List.set_cons_succ]
                    refine restS_pass (i := 11) S0.out rfl (by kernel_rfl) (by kernel_rfl) (by kernel_rfl) (by rfl) ?_
                    try simp only [Act.put, List.setIfInBounds_toArray, List.set_cons_zero, List.set_cons_succ]
                    refine restS_pass (i := 12) S0.out rfl (by kernel_rfl) (by kernel_rfl) (by kernel_rfl) (by rfl) ?_
                    try simp only [Act.put, List.setIfInBounds_toArray, List.set_cons_zero, List.set_cons_succ]
                    refine restS_pass (i := 13) S0.out rfl (by kernel_rfl) (by kernel_rfl) (by kernel_rfl) (by rfl) ?_
                    try simp only [Act.put, List.setIfInBounds_toArray, List.set_cons_zero, List.set_cons_succ]
                    refine restS_pass (i := 14) S0.out rfl (by kernel_rfl) (by kernel_rfl) (by kernel_rfl) (by rfl) ?_
                    try simp only [Act.put, List.setIfInBounds_toArray, List.set_cons_zero, List.set_cons_succ]
                    refine restS_take (i := 15) S0.out rfl (by kernel_rfl) (by kernel_rfl) (by kernel_rfl) (by rfl) (fun v hv => by go_simp; try with_reducible rfl) ?_
                    try simp only [Act.put, List.setIfInBounds_toArray, List.set_cons_zero, List.set_cons_succ]
                    refine restS_take (i := 16) S0.out rfl (by kernel_rfl) (by kernel_rfl) (by kernel_rfl) (by rfl) (fun v hv => by go_simp; try with_reducible rfl) ?_
                    try simp only [Act.put, List.setIfInBounds_toArray, List.set_cons_zero, List.set_cons_succ]
                    refine restS_done (by kernel_rfl) ?_
                    go_wp2
                    exact ⟨⟨j + 1, true, rfl, by simp, by omega, HTn.out, GD.out⟩, by simp [intOf]; omega⟩
                  | false =>
                    refine restS_take (i := 0) S0.out rfl (by kernel_rfl) (by kernel_rfl) (by kernel_rfl) (by rfl) (fun v hv => by obtain ⟨s0, s1, s2, s3⟩ := hv; go_simp; try with_reducible rfl) ?_
                    try simp only [Act.put, List.setIfInBounds_toArray, List.set_cons_zero, List.set_cons_succ]
                    refine restS_take (i := 1) S0.out rfl (by kernel_rfl) (by kernel_rfl) (by kernel_rfl) (by rfl) (fun v hv => by obtain ⟨s0, s1, s2, s3⟩ := hv; go_simp; try with_reducible rfl) ?_
                    try simp only [Act.put, List.setIfInBounds_toArray, List.set_cons_zero, List.set_cons_succ]
                    refine restS_take (i := 2) S0.out rfl (by kernel_rfl) (by kernel_rfl) (by kernel_rfl) (by rfl) (fun v hv => by obtain ⟨s0, s1, s2, s3⟩ := hv; go_simp; try with_reducible rfl) ?_
                    try simp only [Act.put, List.setIfInBounds_toArray, List.set_cons_zero, List.set_cons_succ]
                    refine restS_take (i := 3) S0.out rfl (by kernel_rfl) (by kernel_rfl) (by kernel_rfl) (by rfl) (fun v hv => by obtain ⟨s0, s1, s2, s3⟩ := hv; go_simp; try with_reducible rfl) ?_
                    try simp only [Act.put, List.setIfInBounds_toArray, List.set_cons_zero, List.set_cons_succ]
                    refine restS_take (i := 4) S0.out rfl (by kernel_rfl) (by kernel_rfl) (by kernel_rfl) (by rfl) (fun v hv => by obtain ⟨s0, s1, s2, s3⟩ := hv; go_simp; try with_reducible rfl) ?_
                    try simp only [Act.put, List.setIfInBounds_toArray, List.set_cons_zero, List.set_cons_succ]
                    refine restS_take (i := 5) S0.out rfl (by kernel_rfl) (by kernel_rfl) (by kernel_rfl) (by rfl) (fun v hv => by obtain ⟨s0, s1, s2, s3⟩ := hv; go_simp; try with_reducible rfl) ?_
                    try simp only [Act.put, List.setIfInBounds_toArray, List.set_cons_zero, List.set_cons_succ]
                    refine restS_take (i := 6) S0.out rfl (by kernel_rfl) (by kernel_rfl) (by kernel_rfl) (by rfl) (fun v hv => by obtain ⟨s0, s1, s2, s3⟩ := hv; go_simp; try with_reducible rfl) ?_
                    try simp only [Act.put, List.setIfInBounds_toArray, List.set_cons_zero, List.set_cons_succ]
                    refine restS_take (i := 7) S0.out rfl (by kernel_rfl) (by kernel_rfl) (by kernel_rfl) (by rfl) (fun v hv => by obtain ⟨s0, s1, s2, s3⟩ := hv; go_simp; try with_reducible rfl) ?_
                    try simp only [Act.put, List.setIfInBounds_toArray, List.set_cons_zero, List.set_cons_succ]
                    refine restS_take (i := 8) S0.out rfl (by kernel_rfl) (by kernel_rfl) (by kernel_rfl) (by rfl) (fun v hv => by obtain ⟨s0, s1, s2, s3⟩ := hv; go_simp; try with_reducible rfl) ?_
                    try simp only [Act.put, List.setIfInBounds_toArray, List.set_cons_zero, List.set_cons_succ]
                    refine restS_take (i := 9) S0.out rfl (by kernel_rfl) (by kernel_rfl) (by kernel_rfl) (by rfl) (fun v hv => by obtain ⟨s0, s1, s2, s3⟩ := hv; go_simp; try with_reducible rfl) ?_
                    try simp only [Act.put, List.setIfInBounds_toArray, List.set_cons_zero, List.set_cons_succ]
                    refine restS_take (i := 10) S0.out rfl (by kernel_rfl) (by kernel_rfl) (by kernel_rfl) (by rfl) (fun v hv => by obtain ⟨s0, s1, s2, s3⟩ := hv; go_simp; try with_reducible rfl) ?_
                    try simp only [Act.put, List.setIfInBounds_toArray, List.set_cons_zero, List.set_cons_succ]
                    refine restS_take (i := 11) S0.out rfl (by kernel_rfl) (by kernel_rfl) (by kernel_rfl) (by rfl) (fun v hv => by obtain ⟨s0, s1, s2, s3⟩ := hv; go_simp; try with_reducible rfl) ?_
                    try simp only [Act.put, List.setIfInBounds_toArray, List.set_cons_zero, List.set_cons_succ]
                    refine restS_take (i := 12) S0.out rfl (by kernel_rfl) (by kernel_rfl) (by kernel_rfl) (by rfl) (fun v hv => by obtain ⟨s0, s1, s2, s3⟩ := hv; go_simp; try with_reducible rfl) ?_
                    try simp only [Act.put, List.setIfInBounds_toArray, List.set_cons_zero, List.set_cons_succ]
                    refine restS_take (i := 13) S0.out rfl (by kernel_rfl) (by kernel_rfl) (by kernel_rfl) (by rfl) (fun v hv => by obtain ⟨s0, s1, s2, s3⟩ := hv; go_simp; try with_reducible rfl) ?_
                    try simp only [Act.put, List.setIfInBounds_toArray, List.set_cons_zero, List.set_cons_succ]
                    refine restS_take (i := 14) S0.out rfl (by kernel_rfl) (by kernel_rfl) (by kernel_rfl) (by rfl) (fun v hv => by obtain ⟨s0, s1, s2, s3⟩ := hv; go_simp; try with_reducible rfl) ?_
                    try simp only [Act.put, List.setIfInBounds_toArray, List.set_cons_zero, List.set_cons_succ]
                    refine restS_take (i := 15) S0.out rfl (by kernel_rfl) (by kernel_rfl) (by kernel_rfl) (by rfl) (fun v hv => by obtain ⟨s0, s1, s2, s3⟩ := hv; go_simp; try with_reducible rfl) ?_
                    try simp only [Act.put, List.setIfInBounds_toArray, List.set_cons_zero, List.set_cons_succ]
                    refine restS_take (i := 16) S0.out rfl (by kernel_rfl) (by kernel_rfl) (by kernel_rfl) (by rfl) (fun v hv => by obtain ⟨s0, s1, s2, s3⟩ := hv; go_simp; try with_reducible rfl) ?_
                    try simp only [Act.put, List.setIfInBounds_toArray, List.set_cons_zero, List.set_cons_succ]
                    refine restS_done (by kernel_rfl) ?_
                    go_wp2
                    exact ⟨⟨j + 1, y == x, by simp, by simp, by omega, HTn.out, GD.out⟩, by simp [intOf]; omega⟩
                · have bj : ¬ (j : Int) < (nu : Int) := by omega
                  have HTn := Lib.hid (show t = s1.used.contains x by rw [HT.out, List.take_of_length_le (by rw [← HNU.out]; omega)])
                  clear HT
                  clear p3
                  go_wp2_with fail
                  refine (HIs.out _ (HZ.out.grow KK.out HG.out)).mono ?_
                  rintro e w9 ⟨rfl, hg9⟩
                  rw [← HTn.out]
                  have Z9 := Lib.hid ((HZ.out.grow KK.out HG.out).grow KK.out hg9)
                  have B9 := Lib.hid ((HBs.out.grow HG.out).grow hg9)
                  clear hg9
                  go_wp2
                  exact ⟨⟨q + 1, by simp, by omega, Z9.out, B9.out⟩, by simp [intOf]; omega⟩
            · have bq : ¬ (q : Int) < (na : Int) := by omega
              go_wp2
              exact ⟨⟨i + 1, FP, FR, s1, by simp, by omega, OO.out, LL.out, HZ.out⟩, by simp [intOf]; omega⟩
      · as_aux_lemma =>
          have ZA := Lib.hid (HZ.out.grow KK.out (alloc_below wr (.cells #[.int .i64 4, .slice Aa na ca] 34)))
          have BA := Lib.hid (show Bs (wr.alloc (.cells #[.int .i64 4, .slice Aa na ca] 34)) F F2 wr.heap.size (acO 4 Aa na ca) from Bs.new KK.out HZ.out _)
          have FS := Lib.hid (HO.out.few (by rw [HB.out.1, HB.out.2]; exact h60'))
          clear HZ
          go_wp2_with fail
          obtain ⟨a, ha⟩ : ∃ a, a = wr.heap.size := ⟨_, rfl⟩
          rw [← ha] at BA ⊢
          clear ha d0 d1
          generalize wr.alloc _ = va at ZA BA ⊢
          have OO := Lib.hid (ok_undo HO.out at_)
          have LL := Lib.hid (show (spUndo s at_).first = f ∧ (spUndo s at_).last = l from HB.out)
          obtain ⟨s1, hs1⟩ : ∃ s1, s1 = spUndo s at_ := ⟨_, rfl⟩
          have HP := Lib.hid (KK.out.undo va G F s Aa na ca at_ ZA.out.p HO.out (HA3.out.grow ZA.out.gr) HA1.out ha2 (by omega) HA4.out (off_p ZA.out HA3.out).1)
          have HR := Lib.hid (fun (v : World) (F' : Nat → Prop) (hv : Tw D w v G F' s1 R F2 s) => rUndo (c := ca) hv.r FS.out.1 (HA3.out.grow hv.gr) HA1.out ha2 (by omega) FS.out.2 (off_p hv HA3.out).2)
          rw [← hs1] at OO LL HP HR
          clear hs1
          refine HP.out.mono ?_
          rintro e v1 ⟨rfl, h1⟩
          obtain ⟨FP, hz, hb⟩ := ZA.out.prog h1
          have Z1 := Lib.hid hz
          have B1 := Lib.hid (hb _ _ BA.out)
          clear h1 hz hb ZA BA HP
          obtain ⟨d0, d1⟩ := sa_of B1.out
          go_wp2_with fail
          clear d0 d1
          refine (HR.out v1 FP Z1.out).mono ?_
          rintro e v2 ⟨rfl, h2⟩
          obtain ⟨FR, hz, hb⟩ := Z1.out.ref KK.out h2
          have ZZ := Lib.hid hz
          have BZ := Lib.hid (hb _ _ B1.out)
          clear h2 hz hb Z1 B1 HR HO HB FS
          go_wp2_with fail
          generalize v2 = vz at ZZ BZ ⊢
          have FW := Lib.hid (OO.out.few (by rw [LL.out.1, LL.out.2]; exact h60'))
          obtain ⟨Au, Ag, hsv, _⟩ := ZZ.out.r
          obtain ⟨cu, cg, l1, l2, q0, q1, q2, q3, r1, r2⟩ := hsv.cells
          obtain ⟨nu, hnu⟩ : ∃ nu, nu = s1.used.length := ⟨_, rfl⟩
          rw [← hnu] at q2
          have HNU := Lib.hid hnu
          have hnu60 : nu ≤ 60 := by rw [hnu]; have := FW.out.2; omega
          have RV := Lib.hid (show ∀ v : World, Grown vz v → v.cell? ⟨R, 2, none⟩ = some (.slice Au nu cu) ∧ RdZ v v.heap.size Au s1.used from fun v hv => ⟨(hv.cell (p := ⟨R, 2, none⟩) (World.block_lt_of_cell? vz _ q2)).trans q2, r1.grow hv⟩)
          have HRF := Lib.hid (fun (v : World) (hv : Grown vz v) => refFreeN_any (hsv.grow hv) FW.out.1)
          clear hsv l1 l2 q0 q1 q2 q3 r1 r2 hnu
          have GD := Lib.hid (show Grown vz vz.drew from (Below.refl _ vz).drew)
          have S0 := Lib.hid (RV.out _ GD.out).1
          refine restS_begin (fun v : World => v.cell? ⟨R, 2, none⟩ = some (.slice Au nu cu)) (by kernel_rfl) ?_
          generalize vz.drew = vd at GD S0 ⊢
          refine restS_take (i := 0) S0.out rfl (by kernel_rfl) (by kernel_rfl) (by kernel_rfl) (by rfl) (fun v hv => by go_simp; try with_reducible rfl) ?_
          try simp only [Act.put, List.setIfInBounds_toArray, List.set_cons_zero, List.set_cons_succ]
          refine restS_take (i := 1) S0.out rfl (by kernel_rfl) (by kernel_rfl) (by kernel_rfl) (by rfl) (fun v hv => by go_simp; try with_reducible rfl) ?_
          try simp only [Act.put, List.setIfInBounds_toArray, List.set_cons_zero, List.set_cons_succ]
          refine restS_take (i := 2) S0.out rfl (by kernel_rfl) (by kernel_rfl) (by kernel_rfl) (by rfl) (fun v hv => by go_simp; try with_reducible rfl) ?_
          try simp only [Act.put, List.setIfInBounds_toArray, List.set_cons_zero, List.set_cons_succ]
          refine restS_take (i := 3) S0.out rfl (by kernel_rfl) (by kernel_rfl) (by kernel_rfl) (by rfl) (fun v hv => by go_simp; try with_reducible rfl) ?_
          try simp only [Act.put, List.setIfInBounds_toArray, List.set_cons_zero, List.set_cons_succ]
          refine restS_take (i := 5) S0.out rfl (by kernel_rfl) (by kernel_rfl) (by kernel_rfl) (by rfl) (fun v hv => by go_simp; try with_reducible rfl) ?_
          try simp only [Act.put, List.setIfInBounds_toArray, List.set_cons_zero, List.set_cons_succ]
          refine restS_lone (i := 4) rfl (by kernel_rfl) (by rfl) (fun K hK => ?_)
          go_simp
          refine (KK.out.free vd G FP s1 (ZZ.out.grow KK.out GD.out).p OO.out).mono ?_
          rintro e v3 ⟨rfl, hg3⟩
          have G3 := Lib.hid (GD.out.trans hg3)
          have S3 := Lib.hid (RV.out v3 G3.out).1
          clear hg3
          refine hK.out _ _ S3.out ?_
          clear hK K
          try simp only [Act.put, List.setIfInBounds_toArray, List.set_cons_zero, List.set_cons_succ]
          refine restS_lone (i := 6) rfl (by kernel_rfl) (by rfl) (fun K hK => ?_)
          go_simp
          refine (HRF.out v3 G3.out).mono ?_
          rintro e v4 ⟨rfl, hg4⟩
          have G4 := Lib.hid (G3.out.trans hg4)
          have S4 := Lib.hid (RV.out v4 G4.out).1
          clear hg4 HRF
          refine hK.out _ _ S4.out ?_
          clear hK K
          try simp only [Act.put, List.setIfInBounds_toArray, List.set_cons_zero, List.set_cons_succ]
          refine restS_take (i := 7) S4.out rfl (by kernel_rfl) (by kernel_rfl) (by kernel_rfl) (by rfl) (fun v hv => by go_simp; try with_reducible rfl) ?_
          try simp only [Act.put, List.setIfInBounds_toArray, List.set_cons_zero, List.set_cons_succ]
          refine restS_take (i := 8) S4.out rfl (by kernel_rfl) (by kernel_rfl) (by kernel_rfl) (by rfl) (fun v hv => by go_simp; try with_reducible rfl) ?_
          try simp only [Act.put, List.setIfInBounds_toArray, List.set_cons_zero, List.set_cons_succ]
          refine restS_take (i := 9) S4.out rfl (by kernel_rfl) (by kernel_rfl) (by kernel_rfl) (by rfl) (fun v hv => by go_simp; try with_reducible rfl) ?_
          try simp only [Act.put, List.setIfInBounds_toArray, List.set_cons_zero, List.set_cons_succ]
          refine restS_take (i := 10) S4.out rfl (by kernel_rfl) (by kernel_rfl) (by kernel_rfl) (by rfl) (fun v hv => by go_simp; try with_reducible rfl) ?_
          try simp only [Act.put, List.setIfInBounds_toArray, List.set_cons_zero, List.set_cons_succ]
          refine restS_take (i := 12) S4.out rfl (by kernel_rfl) (by kernel_rfl) (by kernel_rfl) (by rfl) (fun v hv => by go_simp; try with_reducible rfl) ?_
          try simp only [Act.put, List.setIfInBounds_toArray, List.set_cons_zero, List.set_cons_succ]
          refine restS_take (i := 13) S4.out rfl (by kernel_rfl) (by kernel_rfl) (by kernel_rfl) (by rfl) (fun v hv => by go_simp; try with_reducible rfl) ?_
          try simp only [Act.put, List.setIfInBounds_toArray, List.set_cons_zero, List.set_cons_succ]
          refine restS_take (i := 14) S4.out rfl (by kernel_rfl) (by kernel_rfl) (by kernel_rfl) (by rfl) (fun v hv => by go_simp; try with_reducible rfl) ?_
          try simp only [Act.put, List.setIfInBounds_toArray, List.set_cons_zero, List.set_cons_succ]
          refine restS_take (i := 15) S4.out rfl (by kernel_rfl) (by kernel_rfl) (by kernel_rfl) (by rfl) (fun v hv => by go_simp; try with_reducible rfl) ?_
          try simp only [Act.put, List.setIfInBounds_toArray, List.set_cons_zero, List.set_cons_succ]
          refine restS_lone (i := 11) rfl (by kernel_rfl) (by rfl) (fun K hK => ?_)
          go_simp
          refine (KK.out.used v4 G FP s1 (ZZ.out.grow KK.out G4.out).p OO.out).mono ?_
          rintro e v5 ⟨Ax, mx, cx, rfl, hmx, hcx, hrx, hg5, _⟩
          obtain rfl : nu = mx := by rw [HNU.out]; exact hmx
          have G5 := Lib.hid (G4.out.trans hg5)
          have S5 := Lib.hid (RV.out v5 G5.out).1
          have HIn := Lib.hid (refInts_any (c := cx) (c2 := cu) hrx hmx (by omega) (RV.out v5 G5.out).2 HNU.out.symm (by omega))
          rw [decide_eq_true (rfl : s1.used = s1.used)] at HIn
          clear hg5 hmx hcx hrx
          refine hK.out _ _ S5.out ?_
          clear hK K
          try simp only [Act.put, List.setIfInBounds_toArray, List.set_cons_zero, List.set_cons_succ]
          refine restS_lone (i := 16) rfl (by kernel_rfl) (by rfl) (fun K hK => ?_)
          go_simp
          refine HIn.out.mono ?_
          rintro e v6 ⟨rfl, hg6⟩
          have G6 := Lib.hid (G5.out.trans hg6)
          have S6 := Lib.hid (RV.out v6 G6.out).1
          clear hg6 HIn
          refine hK.out _ _ S6.out ?_
          clear hK K
          try simp only [Act.put, List.setIfInBounds_toArray, List.set_cons_zero, List.set_cons_succ]
          refine restS_take (i := 17) S6.out rfl (by kernel_rfl) (by kernel_rfl) (by kernel_rfl) (by rfl) (fun v hv => by go_simp; try with_reducible rfl) ?_
          try simp only [Act.put, List.setIfInBounds_toArray, List.set_cons_zero, List.set_cons_succ]
          refine restS_take (i := 18) S6.out rfl (by kernel_rfl) (by kernel_rfl) (by kernel_rfl) (by rfl) (fun v hv => by go_simp; try with_reducible rfl) ?_
          try simp only [Act.put, List.setIfInBounds_toArray, List.set_cons_zero, List.set_cons_succ]
          refine restS_done (by kernel_rfl) ?_
          have Z6 := Lib.hid (ZZ.out.grow KK.out G6.out)
          have B6 := Lib.hid (BZ.out.grow G6.out)
          clear S0 S3 S4 S5 S6 GD G3 G4 G5 G6 RV ZZ BZ
          go_wp2_with fail
          go_loopw [17] (fun v17 wq => ∃ (q : Nat), v17 = .int .i64 (q : Int) ∧ q ≤ na ∧ Hid (Tw D w wq G FP s1 R FR s1) ∧ Hid (Bs wq FP FR a (acO 4 Aa na ca))) (fun v17 _ => na - (intOf v17).toNat)
          case atStart => exact ⟨0, rfl, Nat.zero_le _, Z6.out, B6.out⟩
          case round =>
            clear Z6 B6
            obtain ⟨q, rfl, hq, HZ, HBs⟩ := hrel
            obtain ⟨sa0, sa1⟩ := sa_of HBs.out
            by_cases hqn : q < na
            · have bq : (q : Int) < (na : Int) := by omega
              obtain ⟨x, hx⟩ : ∃ x, x = at_[q]'(by rw [HA1.out]; exact hqn) := ⟨_, rfl⟩
              have hxr : Ir x := by rw [hx]; exact HA4.out _ (List.getElem_mem _)
              obtain ⟨bx, ox, hAe, hbx, hcx⟩ := HA3.out.at_ (k := q) (by rw [HA1.out]; exact hqn)
              rw [← hx] at hcx
              have HIs := Lib.hid (fun (v : World) (hv : Tw D w v G FP s1 R FR s1) => KK.out.is_ v G FP s1 x hv.p OO.out hxr)
              subst hAe
              have hcx' := (HZ.out.gr.cell (p := ⟨bx, ox + q, none⟩) hbx).trans hcx
              go_wp2_with fail
              obtain ⟨Au2, Ag2, hsv, _⟩ := HZ.out.r
              obtain ⟨cu2, cg2, l1, l2, q0, q1, q2, q3, r1, r2⟩ := hsv.cells
              rw [← HNU.out] at q2
              have RW := Lib.hid (show ∀ v : World, Grown wr v → v.cell? ⟨R, 2, none⟩ = some (.slice Au2 nu cu2) ∧ v.cell? ⟨a, 1, none⟩ = some (.slice (some ⟨bx, ox, none⟩) na ca) ∧ v.cell? ⟨bx, ox + q, none⟩ = some (.int .i64 x) ∧ RdZ v v.heap.size Au2 s1.used from fun v hv => ⟨(hv.cell (p := ⟨R, 2, none⟩) (World.block_lt_of_cell? wr _ q2)).trans q2, (hv.cell (p := ⟨a, 1, none⟩) (World.block_lt_of_cell? wr _ sa1)).trans sa1, (hv.cell (p := ⟨bx, ox + q, none⟩) (World.block_lt_of_cell? wr _ hcx')).trans hcx', r1.grow hv⟩)
              clear hsv l1 l2 q0 q1 q2 q3 r1 r2 sa0 sa1 hcx hcx' hx
              go_loopw [18, 19] (fun v18 v19 wy => ∃ (j : Nat) (t : Bool), v18 = .bool t ∧ v19 = .int .i64 (j : Int) ∧ j ≤ nu ∧ Hid (t = (s1.used.take j).contains x) ∧ Hid (Grown wr wy)) (fun _ v19 _ => nu - (intOf v19).toNat)
              case atStart => exact ⟨0, false, rfl, rfl, Nat.zero_le _, rfl, Grown.refl _⟩
              case round =>
                obtain ⟨j, t, rfl, rfl, hj, HT, HG⟩ := hrel
                obtain ⟨p0, p1, p2, p3⟩ := RW.out _ HG.out
                by_cases hjn : j < nu
                · have bj : (j : Int) < (nu : Int) := by omega
                  have hju : j < s1.used.length := by rw [← HNU.out]; exact hjn
                  obtain ⟨y, hy⟩ : ∃ y, y = s1.used[j] := ⟨_, rfl⟩
                  obtain ⟨b6, o6, hAu, hb6, hc6⟩ := p3.at_ hju
                  rw [← hy] at hc6
                  have HTn := Lib.hid (show (t || (y == x)) = (s1.used.take (j + 1)).contains x by rw [take_has _ _ _ hju, ← HT.out, hy])
                  subst hAu
                  clear hy hju p3 HT
                  have GD := Lib.hid (show Grown _ wr.drew from Grown.trans HG.out (Below.refl _ wr).drew)
                  have S0 := Lib.hid (show wr.drew.cell? ⟨R, 2, none⟩ = some (.slice (some ⟨b6, o6, none⟩) nu cu2) ∧ wr.drew.cell? ⟨a, 1, none⟩ = some (.slice (some ⟨bx, ox, none⟩) na ca) ∧ wr.drew.cell? ⟨bx, ox + q, none⟩ = some (.int .i64 x) ∧ wr.drew.cell? ⟨b6, o6 + j, none⟩ = some (.int .i64 y) from ⟨p0, p1, p2, hc6⟩)
                  clear p1 p2 hc6
                  go_wp2_with fail
                  clear p0
                  refine restS_begin (fun v : World => v.cell? ⟨R, 2, none⟩ = some (.slice (some ⟨b6, o6, none⟩) nu cu2) ∧ v.cell? ⟨a, 1, none⟩ = some (.slice (some ⟨bx, ox, none⟩) na ca) ∧ v.cell? ⟨bx, ox + q, none⟩ = some (.int .i64 x) ∧ v.cell? ⟨b6, o6 + j, none⟩ = some (.int .i64 y)) (by kernel_rfl) ?_
                  generalize wr.drew = wd at GD S0 ⊢
                  cases t with
                  | true =>
                    refine restS_take (i := 0) S0.out rfl (by kernel_rfl) (by kernel_rfl) (by kernel_rfl) (by rfl) (fun v hv => by go_simp; try with_reducible rfl) ?_
                    try simp only [Act.put, List.setIfInBounds_toArray, List.set_cons_zero, List.set_cons_succ]
                    refine restS_take (i := 1) S0.out rfl (by kernel_rfl) (by kernel_rfl) (by kernel_rfl) (by rfl) (fun v hv => by go_simp; try with_reducible rfl) ?_
                    try simp only [Act.put, List.setIfInBounds_toArray, List.set_cons_zero, List.set_cons_succ]
                    refine restS_pass (i := 2) S0.out rfl (by kernel_rfl) (by kernel_rfl) (by kernel_rfl) (by rfl) ?_
                    try simp only [Act.put, List.setIfInBounds_toArray, List.set_cons_zero, List.set_cons_succ]
                    refine restS_pass (i := 3) S0.out rfl (by kernel_rfl) (by kernel_rfl) (by kernel_rfl) (by rfl) ?_
                    try simp only [Act.put, List.setIfInBounds_toArray, List.set_cons_zero, List.set_cons_succ]
                    refine restS_pass (i := 4) S0.out rfl (by kernel_rfl) (by kernel_rfl) (by kernel_rfl) (by rfl) ?_
                    try simp only [Act.put, List.setIfInBounds_toArray, List.set_cons_zero, List.set_cons_succ]
                    refine restS_pass (i := 5) S0.out rfl (by kernel_rfl) (by kernel_rfl) (by kernel_rfl) (by rfl) ?_
                    try simp only [Act.put, List.setIfInBounds_toArray, List.set_cons_zero, List.set_cons_succ]
                    refine restS_pass (i := 6) S0.out rfl (by kernel_rfl) (by kernel_rfl) (by kernel_rfl) (by rfl) ?_
                    try simp only [Act.put, List.setIfInBounds_toArray, List.set_cons_zero, List.set_cons_succ]
                    refine restS_pass (i := 7) S0.out rfl (by kernel_rfl) (by kernel_rfl) (by kernel_rfl) (by rfl) ?_
                    try simp only [Act.put, List.setIfInBounds_toArray, List.set_cons_zero, List.set_cons_succ]
                    refine restS_pass (i := 8) S0.out rfl (by kernel_rfl) (by kernel_rfl) (by kernel_rfl) (by rfl) ?_
                    try simp only [Act.put, List.setIfInBounds_toArray, List.set_cons_zero, List.set_cons_succ]
                    refine restS_pass (i := 9) S0.out rfl (by kernel_rfl) (by kernel_rfl) (by kernel_rfl) (by rfl) ?_
                    try simp only [Act.put, List.setIfInBounds_toArray, List.set_cons_zero, List.set_cons_succ]
                    refine restS_pass (i := 10) S0.out rfl (by kernel_rfl) (by kernel_rfl) (by kernel_rfl) (by rfl) ?_
                    try simp only [Act.put, List.setIfInBounds_toArray, List.set_cons_zero, List.set_cons_succ]
                    refine restS_pass (i := 11) S0.out rfl (by kernel_rfl) (by kernel_rfl) (by kernel_rfl) (by rfl) ?_
                    try simp only [Act.put, List.setIfInBounds_toArray, List.set_cons_zero, List.set_cons_succ]
                    refine restS_pass (i := 12) S0.out rfl (by kernel_rfl) (by kernel_rfl) (by kernel_rfl) (by rfl) ?_
                    try simp only [Act.put, List.setIfInBounds_toArray, List.set_cons_zero, List.set_cons_succ]
                    refine restS_pass (i := 13) S0.out rfl (by kernel_rfl) (by kernel_rfl) (by kernel_rfl) (by rfl) ?_
                    try simp only [Act.put, List.setIfInBounds_toArray, List.set_cons_zero, List.set_cons_succ]
                    refine restS_pass (i := 14) S0.out rfl (by kernel_rfl) (by kernel_rfl) (by kernel_rfl) (by rfl) ?_
                    try simp only [Act.put, List.setIfInBounds_toArray, List.set_cons_zero, List.set_cons_succ]
                    refine restS_take (i := 15) S0.out rfl (by kernel_rfl) (by kernel_rfl) (by kernel_rfl) (by rfl) (fun v hv => by go_simp; try with_reducible rfl) ?_
                    try simp only [Act.put, List.setIfInBounds_toArray, List.set_cons_zero, List.set_cons_succ]
                    refine restS_take (i := 16) S0.out rfl (by kernel_rfl) (by kernel_rfl) (by kernel_rfl) (by rfl) (fun v hv => by go_simp; try with_reducible rfl) ?_
                    try simp only [Act.put, List.setIfInBounds_toArray, List.set_cons_zero, List.set_cons_succ]
                    refine restS_done (by kernel_rfl) ?_
                    go_wp2
                    exact ⟨⟨j + 1, true, rfl, by simp, by omega, HTn.out, GD.out⟩, by simp [intOf]; omega⟩
                  | false =>
                    refine restS_take (i := 0) S0.out rfl (by kernel_rfl) (by kernel_rfl) (by kernel_rfl) (by rfl) (fun v hv => by obtain ⟨s0, s1, s2, s3⟩ := hv; go_simp; try with_reducible rfl) ?_
                    try simp only [Act.put, List.setIfInBounds_toArray, List.set_cons_zero, List.set_cons_succ]
                    refine restS_take (i := 1) S0.out rfl (by kernel_rfl) (by kernel_rfl) (by kernel_rfl) (by rfl) (fun v hv => by obtain ⟨s0, s1, s2, s3⟩ := hv; go_simp; try with_reducible rfl) ?_
                    try simp only [Act.put, List.setIfInBounds_toArray, List.set_cons_zero, List.set_cons_succ]
                    refine restS_take (i := 2) S0.out rfl (by kernel_rfl) (by kernel_rfl) (by kernel_rfl) (by rfl) (fun v hv => by obtain ⟨s0, s1, s2, s3⟩ := hv; go_simp; try with_reducible rfl) ?_
                    try simp only [Act.put, List.setIfInBounds_toArray, List.set_cons_zero, List.set_cons_succ]
                    refine restS_take (i := 3) S0.out rfl (by kernel_rfl) (by kernel_rfl) (by kernel_rfl) (by rfl) (fun v hv => by obtain ⟨s0, s1, s2, s3⟩ := hv; go_simp; try with_reducible rfl) ?_
                    try simp only [Act.put, List.setIfInBounds_toArray, List.set_cons_zero, List.set_cons_succ]
                    refine restS_take (i := 4) S0.out rfl (by kernel_rfl) (by kernel_rfl) (by kernel_rfl) (by rfl) (fun v hv => by obtain ⟨s0, s1, s2, s3⟩ := hv; go_simp; try with_reducible rfl) ?_
                    try simp only [Act.put, List.setIfInBounds_toArray, List.set_cons_zero, List.set_cons_succ]
                    refine restS_take (i := 5) S0.out rfl (by kernel_rfl) (by kernel_rfl) (by kernel_rfl) (by rfl) (fun v hv => by obtain ⟨s0, s1, s2, s3⟩ := hv; go_simp; try with_reducible rfl) ?_
                    try simp only [Act.put, List.setIfInBounds_toArray, List.set_cons_zero, List.set_cons_succ]
                    refine restS_take (i := 6) S0.out rfl (by kernel_rfl) (by kernel_rfl) (by kernel_rfl) (by rfl) (fun v hv => by obtain ⟨s0, s1, s2, s3⟩ := hv; go_simp; try with_reducible rfl) ?_
                    try simp only [Act.put, List.setIfInBounds_toArray, List.set_cons_zero, List.set_cons_succ]
                    refine restS_take (i := 7) S0.out rfl (by kernel_rfl) (by kernel_rfl) (by kernel_rfl) (by rfl) (fun v hv => by obtain ⟨s0, s1, s2, s3⟩ := hv; go_simp; try with_reducible rfl) ?_
                    try simp only [Act.put, List.setIfInBounds_toArray, List.set_cons_zero, List.set_cons_succ]
                    refine restS_take (i := 8) S0.out rfl (by kernel_rfl) (by kernel_rfl) (by kernel_rfl) (by rfl) (fun v hv => by obtain ⟨s0, s1, s2, s3⟩ := hv; go_simp; try with_reducible rfl) ?_
                    try simp only [Act.put, List.setIfInBounds_toArray, List.set_cons_zero, List.set_cons_succ]
                    refine restS_take (i := 9) S0.out rfl (by kernel_rfl) (by kernel_rfl) (by kernel_rfl) (by rfl) (fun v hv => by obtain ⟨s0, s1, s2, s3⟩ := hv; go_simp; try with_reducible rfl) ?_
                    try simp only [Act.put, List.setIfInBounds_toArray, List.set_cons_zero, List.set_cons_succ]
                    refine restS_take (i := 10) S0.out rfl (by kernel_rfl) (by kernel_rfl) (by kernel_rfl) (by rfl) (fun v hv => by obtain ⟨s0, s1, s2, s3⟩ := hv; go_simp; try with_reducible rfl) ?_
                    try simp only [Act.put, List.setIfInBounds_toArray, List.set_cons_zero, List.set_cons_succ]
                    refine restS_take (i := 11) S0.out rfl (by kernel_rfl) (by kernel_rfl) (by kernel_rfl) (by rfl) (fun v hv => by obtain ⟨s0, s1, s2, s3⟩ := hv; go_simp; try with_reducible rfl) ?_
                    try simp only [Act.put, List.setIfInBounds_toArray, List.set_cons_zero, List.set_cons_succ]
                    refine restS_take (i := 12) S0.out rfl (by kernel_rfl) (by kernel_rfl) (by kernel_rfl) (by rfl) (fun v hv => by obtain ⟨s0, s1, s2, s3⟩ := hv; go_simp; try with_reducible rfl) ?_
                    try simp only [Act.put, List.setIfInBounds_toArray, List.set_cons_zero, List.set_cons_succ]
                    refine restS_take (i := 13) S0.out rfl (by kernel_rfl) (by kernel_rfl) (by kernel_rfl) (by rfl) (fun v hv => by obtain ⟨s0, s1, s2, s3⟩ := hv; go_simp; try with_reducible rfl) ?_
                    try simp only [Act.put, List.setIfInBounds_toArray, List.set_cons_zero, List.set_cons_succ]
                    refine restS_take (i := 14) S0.out rfl (by kernel_rfl) (by kernel_rfl) (by kernel_rfl) (by rfl) (fun v hv => by obtain ⟨s0, s1, s2, s3⟩ := hv; go_simp; try with_reducible rfl) ?_
                    try simp only [Act.put, List.setIfInBounds_toArray, List.set_cons_zero, List.set_cons_succ]
                    refine restS_take (i := 15) S0.out rfl (by kernel_rfl) (by kernel_rfl) (by kernel_rfl) (by rfl) (fun v hv => by obtain ⟨s0, s1, s2, s3⟩ := hv; go_simp; try with_reducible rfl) ?_
                    try simp only [Act.put, List.setIfInBounds_toArray, List.set_cons_zero, List.set_cons_succ]
                    refine restS_take (i := 16) S0.out rfl (by kernel_rfl) (by kernel_rfl) (by kernel_rfl) (by rfl) (fun v hv => by obtain ⟨s0, s1, s2, s3⟩ := hv; go_simp; try with_reducible rfl) ?_
                    try simp only [Act.put, List.setIfInBounds_toArray, List.set_cons_zero, List.set_cons_succ]
                    refine restS_done (by kernel_rfl) ?_
                    go_wp2
                    exact ⟨⟨j + 1, y == x, by simp, by simp, by omega, HTn.out, GD.out⟩, by simp [intOf]; omega⟩
                · have bj : ¬ (j : Int) < (nu : Int) := by omega
                  have HTn := Lib.hid (show t = s1.used.contains x by rw [HT.out, List.take_of_length_le (by rw [← HNU.out]; omega)])
                  clear HT
                  clear p3
                  go_wp2_with fail
                  refine (HIs.out _ (HZ.out.grow KK.out HG.out)).mono ?_
                  rintro e w9 ⟨rfl, hg9⟩
                  rw [← HTn.out]
                  have Z9 := Lib.hid ((HZ.out.grow KK.out HG.out).grow KK.out hg9)
                  have B9 := Lib.hid ((HBs.out.grow HG.out).grow hg9)
                  clear hg9
                  go_wp2
                  exact ⟨⟨q + 1, by simp, by omega, Z9.out, B9.out⟩, by simp [intOf]; omega⟩
            · have bq : ¬ (q : Int) < (na : Int) := by omega
              go_wp2
              exact ⟨⟨i + 1, FP, FR, s1, by simp, by omega, OO.out, LL.out, HZ.out⟩, by simp [intOf]; omega⟩
      · as_aux_lemma =>
          have ZA := Lib.hid (HZ.out.grow KK.out (alloc_below wr (.cells #[.int .i64 5, .slice Aa na ca] 34)))
          have BA := Lib.hid (show Bs (wr.alloc (.cells #[.int .i64 5, .slice Aa na ca] 34)) F F2 wr.heap.size (acO 5 Aa na ca) from Bs.new KK.out HZ.out _)
          have FS := Lib.hid (HO.out.few (by rw [HB.out.1, HB.out.2]; exact h60'))
          clear HZ
          go_wp2_with fail
          obtain ⟨a, ha⟩ : ∃ a, a = wr.heap.size := ⟨_, rfl⟩
          rw [← ha] at BA ⊢
          clear ha d0 d1
          generalize wr.alloc _ = va at ZA BA ⊢
          have OO := Lib.hid (ok_back HO.out at_)
          have LL := Lib.hid (show (spBack s at_).2.first = f ∧ (spBack s at_).2.last = l by rw [(ends_back s at_).1, (ends_back s at_).2]; exact HB.out)
          obtain ⟨s1, hs1⟩ : ∃ s1, s1 = (spBack s at_).2 := ⟨_, rfl⟩
          obtain ⟨er, her⟩ : ∃ er, er = (spBack s at_).1 := ⟨_, rfl⟩
          have HP := Lib.hid (fun (v : World) (hv : Tw D w v G F s R F2 s) => KK.out.back v G F s Aa na ca at_ hv.p HO.out (HA3.out.grow hv.gr) HA1.out ha2 (by omega) HA4.out (off_p hv HA3.out).1)
          have HR := Lib.hid (fun (v : World) (F' : Nat → Prop) (hv : Tw D w v G F' s1 R F2 s) => rBack (c := ca) hv.r FS.out.1 (HA3.out.grow hv.gr) HA1.out ha2 (by omega) FS.out.2 (off_p hv HA3.out).2)
          rw [← hs1] at OO LL
          rw [← hs1, ← her] at HP HR
          clear hs1 her HO HB FS
          generalize hvd : va.drew = vd
          have ZD := Lib.hid (show Tw D w vd G F s R F2 s by rw [← hvd]; exact ZA.out.grow KK.out ((Below.refl _ va).drew))
          have BD := Lib.hid (show Bs vd F F2 a (acO 5 Aa na ca) by rw [← hvd]; exact BA.out.grow ((Below.refl _ va).drew))
          clear ZA BA
          refine restS_begin (SA a 5 Aa na ca) (by kernel_rfl) ?_
          rw [hvd]
          clear hvd
          refine restS_take (i := 0) (sa_of BD.out) rfl (by kernel_rfl) (by kernel_rfl) (by kernel_rfl) (by rfl) (fun v hv => by obtain ⟨s0, s1⟩ := hv; go_simp; try with_reducible rfl) ?_
          try simp only [Act.put, List.setIfInBounds_toArray, List.set_cons_zero, List.set_cons_succ]
          refine restS_take (i := 1) (sa_of BD.out) rfl (by kernel_rfl) (by kernel_rfl) (by kernel_rfl) (by rfl) (fun v hv => by obtain ⟨s0, s1⟩ := hv; go_simp; try with_reducible rfl) ?_
          try simp only [Act.put, List.setIfInBounds_toArray, List.set_cons_zero, List.set_cons_succ]
          refine restS_take (i := 2) (sa_of BD.out) rfl (by kernel_rfl) (by kernel_rfl) (by kernel_rfl) (by rfl) (fun v hv => by obtain ⟨s0, s1⟩ := hv; go_simp; try with_reducible rfl) ?_
          try simp only [Act.put, List.setIfInBounds_toArray, List.set_cons_zero, List.set_cons_succ]
          refine restS_take (i := 4) (sa_of BD.out) rfl (by kernel_rfl) (by kernel_rfl) (by kernel_rfl) (by rfl) (fun v hv => by obtain ⟨s0, s1⟩ := hv; go_simp; try with_reducible rfl) ?_
          try simp only [Act.put, List.setIfInBounds_toArray, List.set_cons_zero, List.set_cons_succ]
          refine restS_take (i := 5) (sa_of BD.out) rfl (by kernel_rfl) (by kernel_rfl) (by kernel_rfl) (by rfl) (fun v hv => by obtain ⟨s0, s1⟩ := hv; go_simp; try with_reducible rfl) ?_
          try simp only [Act.put, List.setIfInBounds_toArray, List.set_cons_zero, List.set_cons_succ]
          refine restS_take (i := 6) (sa_of BD.out) rfl (by kernel_rfl) (by kernel_rfl) (by kernel_rfl) (by rfl) (fun v hv => by obtain ⟨s0, s1⟩ := hv; go_simp; try with_reducible rfl) ?_
          try simp only [Act.put, List.setIfInBounds_toArray, List.set_cons_zero, List.set_cons_succ]
          refine restS_lone (i := 3) rfl (by kernel_rfl) (by rfl) (fun K hK => ?_)
          go_simp
          refine (HP.out vd ZD.out).mono ?_
          rintro e v1 ⟨rfl, h1⟩
          obtain ⟨FP, hz, hb⟩ := ZD.out.prog h1
          have Z1 := Lib.hid hz
          have B1 := Lib.hid (hb _ _ BD.out)
          clear h1 hz hb ZD BD HP
          refine hK.out _ _ (sa_of B1.out) ?_
          clear hK K
          try simp only [Act.put, List.setIfInBounds_toArray, List.set_cons_zero, List.set_cons_succ]
          refine restS_lone (i := 7) rfl (by kernel_rfl) (by rfl) (fun K hK => ?_)
          go_simp
          refine (HR.out v1 FP Z1.out).mono ?_
          rintro e v2 ⟨rfl, h2⟩
          obtain ⟨FR, hz, hb⟩ := Z1.out.ref KK.out h2
          have ZZ := Lib.hid hz
          have BZ := Lib.hid (hb _ _ B1.out)
          clear h2 hz hb Z1 B1 HR
          refine hK.out _ _ (sa_of BZ.out) ?_
          clear hK K
          try simp only [Act.put, List.setIfInBounds_toArray, List.set_cons_zero, List.set_cons_succ]
          refine restS_take (i := 8) (sa_of BZ.out) rfl (by kernel_rfl) (by kernel_rfl) (by kernel_rfl) (by rfl) (fun v hv => by go_simp; try with_reducible rfl) ?_
          try simp only [Act.put, List.setIfInBounds_toArray, List.set_cons_zero, List.set_cons_succ]
          refine restS_take (i := 9) (sa_of BZ.out) rfl (by kernel_rfl) (by kernel_rfl) (by kernel_rfl) (by rfl) (fun v hv => by go_simp; try with_reducible rfl) ?_
          try simp only [Act.put, List.setIfInBounds_toArray, List.set_cons_zero, List.set_cons_succ]
          refine restS_done (by kernel_rfl) ?_
          go_wp2_with fail
          generalize v2 = vz at ZZ BZ ⊢
          have FW := Lib.hid (OO.out.few (by rw [LL.out.1, LL.out.2]; exact h60'))
          obtain ⟨Au, Ag, hsv, _⟩ := ZZ.out.r
          obtain ⟨cu, cg, l1, l2, q0, q1, q2, q3, r1, r2⟩ := hsv.cells
          obtain ⟨nu, hnu⟩ : ∃ nu, nu = s1.used.length := ⟨_, rfl⟩
          rw [← hnu] at q2
          have HNU := Lib.hid hnu
          have hnu60 : nu ≤ 60 := by rw [hnu]; have := FW.out.2; omega
          have RV := Lib.hid (show ∀ v : World, Grown vz v → v.cell? ⟨R, 2, none⟩ = some (.slice Au nu cu) ∧ RdZ v v.heap.size Au s1.used from fun v hv => ⟨(hv.cell (p := ⟨R, 2, none⟩) (World.block_lt_of_cell? vz _ q2)).trans q2, r1.grow hv⟩)
          have HRF := Lib.hid (fun (v : World) (hv : Grown vz v) => refFreeN_any (hsv.grow hv) FW.out.1)
          clear hsv l1 l2 q0 q1 q2 q3 r1 r2 hnu
          have GD := Lib.hid (show Grown vz vz.drew from (Below.refl _ vz).drew)
          have S0 := Lib.hid (RV.out _ GD.out).1
          refine restS_begin (fun v : World => v.cell? ⟨R, 2, none⟩ = some (.slice Au nu cu)) (by kernel_rfl) ?_
          generalize vz.drew = vd at GD S0 ⊢
          refine restS_take (i := 0) S0.out rfl (by kernel_rfl) (by kernel_rfl) (by kernel_rfl) (by rfl) (fun v hv => by go_simp; try with_reducible rfl) ?_
          try simp only [Act.put, List.setIfInBounds_toArray, List.set_cons_zero, List.set_cons_succ]
          refine restS_take (i := 1) S0.out rfl (by kernel_rfl) (by kernel_rfl) (by kernel_rfl) (by rfl) (fun v hv => by go_simp; try with_reducible rfl) ?_
          try simp only [Act.put, List.setIfInBounds_toArray, List.set_cons_zero, List.set_cons_succ]
          refine restS_take (i := 2) S0.out rfl (by kernel_rfl) (by kernel_rfl) (by kernel_rfl) (by rfl) (fun v hv => by go_simp; try with_reducible rfl) ?_
          try simp only [Act.put, List.setIfInBounds_toArray, List.set_cons_zero, List.set_cons_succ]
          refine restS_take (i := 3) S0.out rfl (by kernel_rfl) (by kernel_rfl) (by kernel_rfl) (by rfl) (fun v hv => by go_simp; try with_reducible rfl) ?_
          try simp only [Act.put, List.setIfInBounds_toArray, List.set_cons_zero, List.set_cons_succ]
          refine restS_take (i := 5) S0.out rfl (by kernel_rfl) (by kernel_rfl) (by kernel_rfl) (by rfl) (fun v hv => by go_simp; try with_reducible rfl) ?_
          try simp only [Act.put, List.setIfInBounds_toArray, List.set_cons_zero, List.set_cons_succ]
          refine restS_lone (i := 4) rfl (by kernel_rfl) (by rfl) (fun K hK => ?_)
          go_simp
          refine (KK.out.free vd G FP s1 (ZZ.out.grow KK.out GD.out).p OO.out).mono ?_
          rintro e v3 ⟨rfl, hg3⟩
          have G3 := Lib.hid (GD.out.trans hg3)
          have S3 := Lib.hid (RV.out v3 G3.out).1
          clear hg3
          refine hK.out _ _ S3.out ?_
          clear hK K
          try simp only [Act.put, List.setIfInBounds_toArray, List.set_cons_zero, List.set_cons_succ]
          refine restS_lone (i := 6) rfl (by kernel_rfl) (by rfl) (fun K hK => ?_)
          go_simp
          refine (HRF.out v3 G3.out).mono ?_
          rintro e v4 ⟨rfl, hg4⟩
          have G4 := Lib.hid (G3.out.trans hg4)
          have S4 := Lib.hid (RV.out v4 G4.out).1
          clear hg4 HRF
          refine hK.out _ _ S4.out ?_
          clear hK K
          try simp only [Act.put, List.setIfInBounds_toArray, List.set_cons_zero, List.set_cons_succ]
          refine restS_take (i := 7) S4.out rfl (by kernel_rfl) (by kernel_rfl) (by kernel_rfl) (by rfl) (fun v hv => by go_simp; try with_reducible rfl) ?_
          try simp only [Act.put, List.setIfInBounds_toArray, List.set_cons_zero, List.set_cons_succ]
          refine restS_take (i := 8) S4.out rfl (by kernel_rfl) (by kernel_rfl) (by kernel_rfl) (by rfl) (fun v hv => by go_simp; try with_reducible rfl) ?_
          try simp only [Act.put, List.setIfInBounds_toArray, List.set_cons_zero, List.set_cons_succ]
          refine restS_take (i := 9) S4.out rfl (by kernel_rfl) (by kernel_rfl) (by kernel_rfl) (by rfl) (fun v hv => by go_simp; try with_reducible rfl) ?_
          try simp only [Act.put, List.setIfInBounds_toArray, List.set_cons_zero, List.set_cons_succ]
          refine restS_take (i := 10) S4.out rfl (by kernel_rfl) (by kernel_rfl) (by kernel_rfl) (by rfl) (fun v hv => by go_simp; try with_reducible rfl) ?_
          try simp only [Act.put, List.setIfInBounds_toArray, List.set_cons_zero, List.set_cons_succ]
          refine restS_take (i := 12) S4.out rfl (by kernel_rfl) (by kernel_rfl) (by kernel_rfl) (by rfl) (fun v hv => by go_simp; try with_reducible rfl) ?_
          try simp only [Act.put, List.setIfInBounds_toArray, List.set_cons_zero, List.set_cons_succ]
          refine restS_take (i := 13) S4.out rfl (by kernel_rfl) (by kernel_rfl) (by kernel_rfl) (by rfl) (fun v hv => by go_simp; try with_reducible rfl) ?_
          try simp only [Act.put, List.setIfInBounds_toArray, List.set_cons_zero, List.set_cons_succ]
          refine restS_take (i := 14) S4.out rfl (by kernel_rfl) (by kernel_rfl) (by kernel_rfl) (by rfl) (fun v hv => by go_simp; try with_reducible rfl) ?_
          try simp only [Act.put, List.setIfInBounds_toArray, List.set_cons_zero, List.set_cons_succ]
          refine restS_take (i := 15) S4.out rfl (by kernel_rfl) (by kernel_rfl) (by kernel_rfl) (by rfl) (fun v hv => by go_simp; try with_reducible rfl) ?_
          try simp only [Act.put, List.setIfInBounds_toArray, List.set_cons_zero, List.set_cons_succ]
          refine restS_lone (i := 11) rfl (by kernel_rfl) (by rfl) (fun K hK => ?_)
          go_simp
          refine (KK.out.used v4 G FP s1 (ZZ.out.grow KK.out G4.out).p OO.out).mono ?_
          rintro e v5 ⟨Ax, mx, cx, rfl, hmx, hcx, hrx, hg5, _⟩
          obtain rfl : nu = mx := by rw [HNU.out]; exact hmx
          have G5 := Lib.hid (G4.out.trans hg5)
          have S5 := Lib.hid (RV.out v5 G5.out).1
          have HIn := Lib.hid (refInts_any (c := cx) (c2 := cu) hrx hmx (by omega) (RV.out v5 G5.out).2 HNU.out.symm (by omega))
          rw [decide_eq_true (rfl : s1.used = s1.used)] at HIn
          clear hg5 hmx hcx hrx
          refine hK.out _ _ S5.out ?_
          clear hK K
          try simp only [Act.put, List.setIfInBounds_toArray, List.set_cons_zero, List.set_cons_succ]
          refine restS_lone (i := 16) rfl (by kernel_rfl) (by rfl) (fun K hK => ?_)
          go_simp
          refine HIn.out.mono ?_
          rintro e v6 ⟨rfl, hg6⟩
          have G6 := Lib.hid (G5.out.trans hg6)
          have S6 := Lib.hid (RV.out v6 G6.out).1
          clear hg6 HIn
          refine hK.out _ _ S6.out ?_
          clear hK K
          try simp only [Act.put, List.setIfInBounds_toArray, List.set_cons_zero, List.set_cons_succ]
          refine restS_take (i := 17) S6.out rfl (by kernel_rfl) (by kernel_rfl) (by kernel_rfl) (by rfl) (fun v hv => by go_simp; try with_reducible rfl) ?_
          try simp only [Act.put, List.setIfInBounds_toArray, List.set_cons_zero, List.set_cons_succ]
          refine restS_take (i := 18) S6.out rfl (by kernel_rfl) (by kernel_rfl) (by kernel_rfl) (by rfl) (fun v hv => by go_simp; try with_reducible rfl) ?_
          try simp only [Act.put, List.setIfInBounds_toArray, List.set_cons_zero, List.set_cons_succ]
          refine restS_done (by kernel_rfl) ?_
          have Z6 := Lib.hid (ZZ.out.grow KK.out G6.out)
          have B6 := Lib.hid (BZ.out.grow G6.out)
          clear S0 S3 S4 S5 S6 GD G3 G4 G5 G6 RV ZZ BZ
          go_wp2_with fail
          go_loopw [17] (fun v17 wq => ∃ (q : Nat), v17 = .int .i64 (q : Int) ∧ q ≤ na ∧ Hid (Tw D w wq G FP s1 R FR s1) ∧ Hid (Bs wq FP FR a (acO 5 Aa na ca))) (fun v17 _ => na - (intOf v17).toNat)
          case atStart => exact ⟨0, rfl, Nat.zero_le _, Z6.out, B6.out⟩
          case round =>
            clear Z6 B6
            obtain ⟨q, rfl, hq, HZ, HBs⟩ := hrel
            obtain ⟨sa0, sa1⟩ := sa_of HBs.out
            by_cases hqn : q < na
            · have bq : (q : Int) < (na : Int) := by omega
              obtain ⟨x, hx⟩ : ∃ x, x = at_[q]'(by rw [HA1.out]; exact hqn) := ⟨_, rfl⟩
              have hxr : Ir x := by rw [hx]; exact HA4.out _ (List.getElem_mem _)
              obtain ⟨bx, ox, hAe, hbx, hcx⟩ := HA3.out.at_ (k := q) (by rw [HA1.out]; exact hqn)
              rw [← hx] at hcx
              have HIs := Lib.hid (fun (v : World) (hv : Tw D w v G FP s1 R FR s1) => KK.out.is_ v G FP s1 x hv.p OO.out hxr)
              subst hAe
              have hcx' := (HZ.out.gr.cell (p := ⟨bx, ox + q, none⟩) hbx).trans hcx
              go_wp2_with fail
              obtain ⟨Au2, Ag2, hsv, _⟩ := HZ.out.r
              obtain ⟨cu2, cg2, l1, l2, q0, q1, q2, q3, r1, r2⟩ := hsv.cells
              rw [← HNU.out] at q2
              have RW := Lib.hid (show ∀ v : World, Grown wr v → v.cell? ⟨R, 2, none⟩ = some (.slice Au2 nu cu2) ∧ v.cell? ⟨a, 1, none⟩ = some (.slice (some ⟨bx, ox, none⟩) na ca) ∧ v.cell? ⟨bx, ox + q, none⟩ = some (.int .i64 x) ∧ RdZ v v.heap.size Au2 s1.used from fun v hv => ⟨(hv.cell (p := ⟨R, 2, none⟩) (World.block_lt_of_cell? wr _ q2)).trans q2, (hv.cell (p := ⟨a, 1, none⟩) (World.block_lt_of_cell? wr _ sa1)).trans sa1, (hv.cell (p := ⟨bx, ox + q, none⟩) (World.block_lt_of_cell? wr _ hcx')).trans hcx', r1.grow hv⟩)
              clear hsv l1 l2 q0 q1 q2 q3 r1 r2 sa0 sa1 hcx hcx' hx
              go_loopw [18, 19] (fun v18 v19 wy => ∃ (j : Nat) (t : Bool), v18 = .bool t ∧ v19 = .int .i64 (j : Int) ∧ j ≤ nu ∧ Hid (t = (s1.used.take j).contains x) ∧ Hid (Grown wr wy)) (fun _ v19 _ => nu - (intOf v19).toNat)
              case atStart => exact ⟨0, false, rfl, rfl, Nat.zero_le _, rfl, Grown.refl _⟩
              case round =>
                obtain ⟨j, t, rfl, rfl, hj, HT, HG⟩ := hrel
                obtain ⟨p0, p1, p2, p3⟩ := RW.out _ HG.out
                by_cases hjn : j < nu
                · have bj : (j : Int) < (nu : Int) := by omega
                  have hju : j < s1.used.length := by rw [← HNU.out]; exact hjn
                  obtain ⟨y, hy⟩ : ∃ y, y = s1.used[j] := ⟨_, rfl⟩
                  obtain ⟨b6, o6, hAu, hb6, hc6⟩ := p3.at_ hju
                  rw [← hy] at hc6
                  have HTn := Lib.hid (show (t || (y == x)) = (s1.used.take (j + 1)).contains x by rw [take_has _ _ _ hju, ← HT.out, hy])
                  subst hAu
                  clear hy hju p3 HT
                  have GD := Lib.hid (show Grown _ wr.drew from Grown.trans HG.out (Below.refl _ wr).drew)
                  have S0 := Lib.hid (show wr.drew.cell? ⟨R, 2, none⟩ = some (.slice (some ⟨b6, o6, none⟩) nu cu2) ∧ wr.drew.cell? ⟨a, 1, none⟩ = some (.slice (some ⟨bx, ox, none⟩) na ca) ∧ wr.drew.cell? ⟨bx, ox + q, none⟩ = some (.int .i64 x) ∧ wr.drew.cell? ⟨b6, o6 + j, none⟩ = some (.int .i64 y) from ⟨p0, p1, p2, hc6⟩)
                  clear p1 p2 hc6
                  go_wp2_with fail
                  clear p0
                  refine restS_begin (fun v : World => v.cell? ⟨R, 2, none⟩ = some (.slice (some ⟨b6, o6, none⟩) nu cu2) ∧ v.cell? ⟨a, 1, none⟩ = some (.slice (some ⟨bx, ox, none⟩) na ca) ∧ v.cell? ⟨bx, ox + q, none⟩ = some (.int .i64 x) ∧ v.cell? ⟨b6, o6 + j, none⟩ = some (.int .i64 y)) (by kernel_rfl) ?_
                  generalize wr.drew = wd at GD S0 ⊢
                  cases t with
                  | true =>
                    refine restS_take (i := 0) S0.out rfl (by kernel_rfl) (by kernel_rfl) (by kernel_rfl) (by rfl) (fun v hv => by go_simp; try with_reducible rfl) ?_
                    try simp only [Act.put, List.setIfInBounds_toArray, List.set_cons_zero, List.set_cons_succ]
                    refine restS_take (i := 1) S0.out rfl (by kernel_rfl) (by kernel_rfl) (by kernel_rfl) (by rfl) (fun v hv => by go_simp; try with_reducible rfl) ?_
                    try simp only [Act.put, List.setIfInBounds_toArray, List.set_cons_zero, List.set_cons_succ]
                    refine restS_pass (i := 2) S0.out rfl (by kernel_rfl) (by kernel_rfl) (by kernel_rfl) (by rfl) ?_
                    try simp only [Act.put, List.setIfInBounds_toArray, List.set_cons_zero, List.set_cons_succ]
                    refine restS_pass (i := 3) S0.out rfl (by kernel_rfl) (by kernel_rfl) (by kernel_rfl) (by rfl) ?_
                    try simp only [Act.put, List.setIfInBounds_toArray, List.set_cons_zero, List.set_cons_succ]
                    refine restS_pass (i := 4) S0.out rfl (by kernel_rfl) (by kernel_rfl) (by kernel_rfl) (by rfl) ?_
                    try simp only [Act.put, List.setIfInBounds_toArray, List.set_cons_zero, List.set_cons_succ]
                    refine restS_pass (i := 5) S0.out rfl (by kernel_rfl) (by kernel_rfl) (by kernel_rfl) (by rfl) ?_
                    try simp only [Act.put, List.setIfInBounds_toArray, List.set_cons_zero, List.set_cons_succ]
                    refine restS_pass (i := 6) S0.out rfl (by kernel_rfl) (by kernel_rfl) (by kernel_rfl) (by rfl) ?_
                    try simp only [Act.put, List.setIfInBounds_toArray, List.set_cons_zero, List.set_cons_succ]
                    refine restS_pass (i := 7) S0.out rfl (by kernel_rfl) (by kernel_rfl) (by kernel_rfl) (by rfl) ?_
                    try simp only [Act.put, List.setIfInBounds_toArray, List.set_cons_zero, List.set_cons_succ]
                    refine restS_pass (i := 8) S0.out rfl (by kernel_rfl) (by kernel_rfl) (by kernel_rfl) (by rfl) ?_
                    try simp only [Act.put, List.setIfInBounds_toArray, List.set_cons_zero, List.set_cons_succ]
                    refine restS_pass (i := 9) S0.out rfl (by kernel_rfl) (by kernel_rfl) (by kernel_rfl) (by rfl) ?_
                    try simp only [Act.put, List.setIfInBounds_toArray, List.set_cons_zero, List.set_cons_succ]
                    refine restS_pass (i := 10) S0.out rfl (by kernel_rfl) (by kernel_rfl) (by kernel_rfl) (by rfl) ?_
                    try simp only [Act.put, List.setIfInBounds_toArray, List.set_cons_zero, List.set_cons_succ]
                    refine restS_pass (i := 11) S0.out rfl (by kernel_rfl) (by kernel_rfl) (by kernel_rfl) (by rfl) ?_
                    try simp only [Act.put, List.setIfInBounds_toArray, List.set_cons_zero, List.set_cons_succ]
                    refine restS_pass (i := 12) S0.out rfl (by kernel_rfl) (by kernel_rfl) (by kernel_rfl) (by rfl) ?_
                    try simp only [Act.put, List.setIfInBounds_toArray, List.set_cons_zero, List.set_cons_succ]
                    refine restS_pass (i := 13) S0.out rfl (by kernel_rfl) (by kernel_rfl) (by kernel_rfl) (by rfl) ?_
                    try simp only [Act.put, List.setIfInBounds_toArray, List.set_cons_zero, List.set_cons_succ]
                    refine restS_pass (i := 14) S0.out rfl (by kernel_rfl) (by kernel_rfl) (by kernel_rfl) (by rfl) ?_
                    try simp only [Act.put, List.setIfInBounds_toArray, List.set_cons_zero, List.set_cons_succ]
                    refine restS_take (i := 15) S0.out rfl (by kernel_rfl) (by kernel_rfl) (by kernel_rfl) (by rfl) (fun v hv => by go_simp; try with_reducible rfl) ?_
                    try simp only [Act.put, List.setIfInBounds_toArray, List.set_cons_zero, List.set_cons_succ]
                    refine restS_take (i := 16) S0.out rfl (by kernel_rfl) (by kernel_rfl) (by kernel_rfl) (by rfl) (fun v hv => by go_simp; try with_reducible rfl) ?_
                    try simp only [Act.put, List.setIfInBounds_toArray, List.set_cons_zero, List.set_cons_succ]
                    refine restS_done (by kernel_rfl) ?_
                    go_wp2
                    exact ⟨⟨j + 1, true, rfl, by simp, by omega, HTn.out, GD.out⟩, by simp [intOf]; omega⟩
                  | false =>
                    refine restS_take (i := 0) S0.out rfl (by kernel_rfl) (by kernel_rfl) (by kernel_rfl) (by rfl) (fun v hv => by obtain ⟨s0, s1, s2, s3⟩ := hv; go_simp; try with_reducible rfl) ?_
                    try simp only [Act.put, List.setIfInBounds_toArray, List.set_cons_zero, List.set_cons_succ]
                    refine restS_take (i := 1) S0.out rfl (by kernel_rfl) (by kernel_rfl) (by kernel_rfl) (by rfl) (fun v hv => by obtain ⟨s0, s1, s2, s3⟩ := hv; go_simp; try with_reducible rfl) ?_
                    try simp only [Act.put, List.setIfInBounds_toArray, List.set_cons_zero, List.set_cons_succ]
                    refine restS_take (i := 2) S0.out rfl (by kernel_rfl) (by kernel_rfl) (by kernel_rfl) (by rfl) (fun v hv => by obtain ⟨s0, s1, s2, s3⟩ := hv; go_simp; try with_reducible rfl) ?_
                    try simp only [Act.put, List.setIfInBounds_toArray, List.set_cons_zero, List.set_cons_succ]
                    refine restS_take (i := 3) S0.out rfl (by kernel_rfl) (by kernel_rfl) (by kernel_rfl) (by rfl) (fun v hv => by obtain ⟨s0, s1, s2, s3⟩ := hv; go_simp; try with_reducible rfl) ?_
                    try simp only [Act.put, List.setIfInBounds_toArray, List.set_cons_zero, List.set_cons_succ]
                    refine restS_take (i := 4) S0.out rfl (by kernel_rfl) (by kernel_rfl) (by kernel_rfl) (by rfl) (fun v hv => by obtain ⟨s0, s1, s2, s3⟩ := hv; go_simp; try with_reducible rfl) ?_
                    try simp only [Act.put, List.setIfInBounds_toArray, List.set_cons_zero, List.set_cons_succ]
                    refine restS_take (i := 5) S0.out rfl (by kernel_rfl) (by kernel_rfl) (by kernel_rfl) (by rfl) (fun v hv => by obtain ⟨s0, s1, s2, s3⟩ := hv; go_simp; try with_reducible rfl) ?_
                    try simp only [Act.put, List.setIfInBounds_toArray, List.set_cons_zero, List.set_cons_succ]
                    refine restS_take (i := 6) S0.out rfl (by kernel_rfl) (by kernel_rfl) (by kernel_rfl) (by rfl) (fun v hv => by obtain ⟨s0, s1, s2, s3⟩ := hv; go_simp; try with_reducible rfl) ?_
                    try simp only [Act.put, List.setIfInBounds_toArray, List.set_cons_zero, List.set_cons_succ]
                    refine restS_take (i := 7) S0.out rfl (by kernel_rfl) (by kernel_rfl) (by kernel_rfl) (by rfl) (fun v hv => by obtain ⟨s0, s1, s2, s3⟩ := hv; go_simp; try with_reducible rfl) ?_
                    try simp only [Act.put, List.setIfInBounds_toArray, List.set_cons_zero, List.set_cons_succ]
                    refine restS_take (i := 8) S0.out rfl (by kernel_rfl) (by kernel_rfl) (by kernel_rfl) (by rfl) (fun v hv => by obtain ⟨s0, s1, s2, s3⟩ := hv; go_simp; try with_reducible rfl) ?_
                    try simp only [Act.put, List.setIfInBounds_toArray, List.set_cons_zero, List.set_cons_succ]
                    refine restS_take (i := 9) S0.out rfl (by kernel_rfl) (by kernel_rfl) (by kernel_rfl) (by rfl) (fun v hv => by obtain ⟨s0, s1, s2, s3⟩ := hv; go_simp; try with_reducible rfl) ?_
                    try simp only [Act.put, List.setIfInBounds_toArray, List.set_cons_zero, List.set_cons_succ]
                    refine restS_take (i := 10) S0.out rfl (by kernel_rfl) (by kernel_rfl) (by kernel_rfl) (by rfl) (fun v hv => by obtain ⟨s0, s1, s2, s3⟩ := hv; go_simp; try with_reducible rfl) ?_
                    try simp only [Act.put, List.setIfInBounds_toArray, List.set_cons_zero, List.set_cons_succ]
                    refine restS_take (i := 11) S0.out rfl (by kernel_rfl) (by kernel_rfl) (by kernel_rfl) (by rfl) (fun v hv => by obtain ⟨s0, s1, s2, s3⟩ := hv; go_simp; try with_reducible rfl) ?_
                    try simp only [Act.put, List.setIfInBounds_toArray, List.set_cons_zero, List.set_cons_succ]
                    refine restS_take (i := 12) S0.out rfl (by kernel_rfl) (by kernel_rfl) (by kernel_rfl) (by rfl) (fun v hv => by obtain ⟨s0, s1, s2, s3⟩ := hv; go_simp; try with_reducible rfl) ?_
                    try simp only [Act.put, List.setIfInBounds_toArray, List.set_cons_zero, List.set_cons_succ]
                    refine restS_take (i := 13) S0.out rfl (by kernel_rfl) (by kernel_rfl) (by kernel_rfl) (by rfl) (fun v hv => by obtain ⟨s0, s1, s2, s3⟩ := hv; go_simp; try with_reducible rfl) ?_
                    try simp only [Act.put, List.setIfInBounds_toArray, List.set_cons_zero, List.set_cons_succ]
                    refine restS_take (i := 14) S0.out rfl (by kernel_rfl) (by kernel_rfl) (by kernel_rfl) (by rfl) (fun v hv => by obtain ⟨s0, s1, s2, s3⟩ := hv; go_simp; try with_reducible rfl) ?_
                    try simp only [Act.put, List.setIfInBounds_toArray, List.set_cons_zero, List.set_cons_succ]
                    refine restS_take (i := 15) S0.out rfl (by kernel_rfl) (by kernel_rfl) (by kernel_rfl) (by rfl) (fun v hv => by obtain ⟨s0, s1, s2, s3⟩ := hv; go_simp; try with_reducible rfl) ?_
                    try simp only [Act.put, List.setIfInBounds_toArray, List.set_cons_zero, List.set_cons_succ]
                    refine restS_take (i := 16) S0.out rfl (by kernel_rfl) (by kernel_rfl) (by kernel_rfl) (by rfl) (fun v hv => by obtain ⟨s0, s1, s2, s3⟩ := hv; go_simp; try with_reducible rfl) ?_
                    try simp only [Act.put, List.setIfInBounds_toArray, List.set_cons_zero, List.set_cons_succ]
                    refine restS_done (by kernel_rfl) ?_
                    go_wp2
                    exact ⟨⟨j + 1, y == x, by simp, by simp, by omega, HTn.out, GD.out⟩, by simp [intOf]; omega⟩
                · have bj : ¬ (j : Int) < (nu : Int) := by omega
                  have HTn := Lib.hid (show t = s1.used.contains x by rw [HT.out, List.take_of_length_le (by rw [← HNU.out]; omega)])
                  clear HT
                  clear p3
                  go_wp2_with fail
                  refine (HIs.out _ (HZ.out.grow KK.out HG.out)).mono ?_
                  rintro e w9 ⟨rfl, hg9⟩
                  rw [← HTn.out]
                  have Z9 := Lib.hid ((HZ.out.grow KK.out HG.out).grow KK.out hg9)
                  have B9 := Lib.hid ((HBs.out.grow HG.out).grow hg9)
                  clear hg9
                  go_wp2
                  exact ⟨⟨q + 1, by simp, by omega, Z9.out, B9.out⟩, by simp [intOf]; omega⟩
            · have bq : ¬ (q : Int) < (na : Int) := by omega
              go_wp2
              exact ⟨⟨i + 1, FP, FR, s1, by simp, by omega, OO.out, LL.out, HZ.out⟩, by simp [intOf]; omega⟩
      · as_aux_lemma =>
          have ZA := Lib.hid (HZ.out.grow KK.out (alloc_below wr (.cells #[.int .i64 k, .slice Aa na ca] 34)))
          have BA := Lib.hid (show Bs (wr.alloc (.cells #[.int .i64 k, .slice Aa na ca] 34)) F F2 wr.heap.size (acO k Aa na ca) from Bs.new KK.out HZ.out _)
          have FS := Lib.hid (HO.out.few (by rw [HB.out.1, HB.out.2]; exact h60'))
          clear HZ
          go_wp2_with fail
          obtain ⟨a, ha⟩ : ∃ a, a = wr.heap.size := ⟨_, rfl⟩
          rw [← ha] at BA ⊢
          clear ha d0 d1
          generalize wr.alloc _ = va at ZA BA ⊢
          have ZZ := Lib.hid ZA.out
          have BZ := Lib.hid BA.out
          have OO := Lib.hid HO.out
          have LL := Lib.hid HB.out
          clear ZA BA HO HB FS
          generalize va = vz at ZZ BZ ⊢
          have FW := Lib.hid (OO.out.few (by rw [LL.out.1, LL.out.2]; exact h60'))
          obtain ⟨Au, Ag, hsv, _⟩ := ZZ.out.r
          obtain ⟨cu, cg, l1, l2, q0, q1, q2, q3, r1, r2⟩ := hsv.cells
          obtain ⟨nu, hnu⟩ : ∃ nu, nu = s.used.length := ⟨_, rfl⟩
          rw [← hnu] at q2
          have HNU := Lib.hid hnu
          have hnu60 : nu ≤ 60 := by rw [hnu]; have := FW.out.2; omega
          have RV := Lib.hid (show ∀ v : World, Grown vz v → v.cell? ⟨R, 2, none⟩ = some (.slice Au nu cu) ∧ RdZ v v.heap.size Au s.used from fun v hv => ⟨(hv.cell (p := ⟨R, 2, none⟩) (World.block_lt_of_cell? vz _ q2)).trans q2, r1.grow hv⟩)
          have HRF := Lib.hid (fun (v : World) (hv : Grown vz v) => refFreeN_any (hsv.grow hv) FW.out.1)
          clear hsv l1 l2 q0 q1 q2 q3 r1 r2 hnu
          have GD := Lib.hid (show Grown vz vz.drew from (Below.refl _ vz).drew)
          have S0 := Lib.hid (RV.out _ GD.out).1
          refine restS_begin (fun v : World => v.cell? ⟨R, 2, none⟩ = some (.slice Au nu cu)) (by kernel_rfl) ?_
          generalize vz.drew = vd at GD S0 ⊢
          refine restS_take (i := 0) S0.out rfl (by kernel_rfl) (by kernel_rfl) (by kernel_rfl) (by rfl) (fun v hv => by go_simp; try with_reducible rfl) ?_
          try simp only [Act.put, List.setIfInBounds_toArray, List.set_cons_zero, List.set_cons_succ]
          refine restS_take (i := 1) S0.out rfl (by kernel_rfl) (by kernel_rfl) (by kernel_rfl) (by rfl) (fun v hv => by go_simp; try with_reducible rfl) ?_
          try simp only [Act.put, List.setIfInBounds_toArray, List.set_cons_zero, List.set_cons_succ]
          refine restS_take (i := 2) S0.out rfl (by kernel_rfl) (by kernel_rfl) (by kernel_rfl) (by rfl) (fun v hv => by go_simp; try with_reducible rfl) ?_
          try simp only [Act.put, List.setIfInBounds_toArray, List.set_cons_zero, List.set_cons_succ]
          refine restS_take (i := 3) S0.out rfl (by kernel_rfl) (by kernel_rfl) (by kernel_rfl) (by rfl) (fun v hv => by go_simp; try with_reducible rfl) ?_
          try simp only [Act.put, List.setIfInBounds_toArray, List.set_cons_zero, List.set_cons_succ]
          refine restS_take (i := 5) S0.out rfl (by kernel_rfl) (by kernel_rfl) (by kernel_rfl) (by rfl) (fun v hv => by go_simp; try with_reducible rfl) ?_
          try simp only [Act.put, List.setIfInBounds_toArray, List.set_cons_zero, List.set_cons_succ]
          refine restS_lone (i := 4) rfl (by kernel_rfl) (by rfl) (fun K hK => ?_)
          go_simp
          refine (KK.out.free vd G F s (ZZ.out.grow KK.out GD.out).p OO.out).mono ?_
          rintro e v3 ⟨rfl, hg3⟩
          have G3 := Lib.hid (GD.out.trans hg3)
          have S3 := Lib.hid (RV.out v3 G3.out).1
          clear hg3
          refine hK.out _ _ S3.out ?_
          clear hK K
          try simp only [Act.put, List.setIfInBounds_toArray, List.set_cons_zero, List.set_cons_succ]
          refine restS_lone (i := 6) rfl (by kernel_rfl) (by rfl) (fun K hK => ?_)
          go_simp
          refine (HRF.out v3 G3.out).mono ?_
          rintro e v4 ⟨rfl, hg4⟩
          have G4 := Lib.hid (G3.out.trans hg4)
          have S4 := Lib.hid (RV.out v4 G4.out).1
          clear hg4 HRF
          refine hK.out _ _ S4.out ?_
          clear hK K
          try simp only [Act.put, List.setIfInBounds_toArray, List.set_cons_zero, List.set_cons_succ]
          refine restS_take (i := 7) S4.out rfl (by kernel_rfl) (by kernel_rfl) (by kernel_rfl) (by rfl) (fun v hv => by go_simp; try with_reducible rfl) ?_
          try simp only [Act.put, List.setIfInBounds_toArray, List.set_cons_zero, List.set_cons_succ]
          refine restS_take (i := 8) S4.out rfl (by kernel_rfl) (by kernel_rfl) (by kernel_rfl) (by rfl) (fun v hv => by go_simp; try with_reducible rfl) ?_
          try simp only [Act.put, List.setIfInBounds_toArray, List.set_cons_zero, List.set_cons_succ]
          refine restS_take (i := 9) S4.out rfl (by kernel_rfl) (by kernel_rfl) (by kernel_rfl) (by rfl) (fun v hv => by go_simp; try with_reducible rfl) ?_
          try simp only [Act.put, List.setIfInBounds_toArray, List.set_cons_zero, List.set_cons_succ]
          refine restS_take (i := 10) S4.out rfl (by kernel_rfl) (by kernel_rfl) (by kernel_rfl) (by rfl) (fun v hv => by go_simp; try with_reducible rfl) ?_
          try simp only [Act.put, List.setIfInBounds_toArray, List.set_cons_zero, List.set_cons_succ]
          refine restS_take (i := 12) S4.out rfl (by kernel_rfl) (by kernel_rfl) (by kernel_rfl) (by rfl) (fun v hv => by go_simp; try with_reducible rfl) ?_
          try simp only [Act.put, List.setIfInBounds_toArray, List.set_cons_zero, List.set_cons_succ]
          refine restS_take (i := 13) S4.out rfl (by kernel_rfl) (by kernel_rfl) (by kernel_rfl) (by rfl) (fun v hv => by go_simp; try with_reducible rfl) ?_
          try simp only [Act.put, List.setIfInBounds_toArray, List.set_cons_zero, List.set_cons_succ]
          refine restS_take (i := 14) S4.out rfl (by kernel_rfl) (by kernel_rfl) (by kernel_rfl) (by rfl) (fun v hv => by go_simp; try with_reducible rfl) ?_
          try simp only [Act.put, List.setIfInBounds_toArray, List.set_cons_zero, List.set_cons_succ]
          refine restS_take (i := 15) S4.out rfl (by kernel_rfl) (by kernel_rfl) (by kernel_rfl) (by rfl) (fun v hv => by go_simp; try with_reducible rfl) ?_
          try simp only [Act.put, List.setIfInBounds_toArray, List.set_cons_zero, List.set_cons_succ]
          refine restS_lone (i := 11) rfl (by kernel_rfl) (by rfl) (fun K hK => ?_)
          go_simp
          refine (KK.out.used v4 G F s (ZZ.out.grow KK.out G4.out).p OO.out).mono ?_
          rintro e v5 ⟨Ax, mx, cx, rfl, hmx, hcx, hrx, hg5, _⟩
          obtain rfl : nu = mx := by rw [HNU.out]; exact hmx
          have G5 := Lib.hid (G4.out.trans hg5)
          have S5 := Lib.hid (RV.out v5 G5.out).1
          have HIn := Lib.hid (refInts_any (c := cx) (c2 := cu) hrx hmx (by omega) (RV.out v5 G5.out).2 HNU.out.symm (by omega))
          rw [decide_eq_true (rfl : s.used = s.used)] at HIn
          clear hg5 hmx hcx hrx
          refine hK.out _ _ S5.out ?_
          clear hK K
          try simp only [Act.put, List.setIfInBounds_toArray, List.set_cons_zero, List.set_cons_succ]
          refine restS_lone (i := 16) rfl (by kernel_rfl) (by rfl) (fun K hK => ?_)
          go_simp
          refine HIn.out.mono ?_
          rintro e v6 ⟨rfl, hg6⟩
          have G6 := Lib.hid (G5.out.trans hg6)
          have S6 := Lib.hid (RV.out v6 G6.out).1
          clear hg6 HIn
          refine hK.out _ _ S6.out ?_
          clear hK K
          try simp only [Act.put, List.setIfInBounds_toArray, List.set_cons_zero, List.set_cons_succ]
          refine restS_take (i := 17) S6.out rfl (by kernel_rfl) (by kernel_rfl) (by kernel_rfl) (by rfl) (fun v hv => by go_simp; try with_reducible rfl) ?_
          try simp only [Act.put, List.setIfInBounds_toArray, List.set_cons_zero, List.set_cons_succ]
          refine restS_take (i := 18) S6.out rfl (by kernel_rfl) (by kernel_rfl) (by kernel_rfl) (by rfl) (fun v hv => by go_simp; try with_reducible rfl) ?_
          try simp only [Act.put, List.setIfInBounds_toArray, List.set_cons_zero, List.set_cons_succ]
          refine restS_done (by kernel_rfl) ?_
          have Z6 := Lib.hid (ZZ.out.grow KK.out G6.out)
          have B6 := Lib.hid (BZ.out.grow G6.out)
          clear S0 S3 S4 S5 S6 GD G3 G4 G5 G6 RV ZZ BZ
          go_wp2_with fail
          go_loopw [17] (fun v17 wq => ∃ (q : Nat), v17 = .int .i64 (q : Int) ∧ q ≤ na ∧ Hid (Tw D w wq G F s R F2 s) ∧ Hid (Bs wq F F2 a (acO k Aa na ca))) (fun v17 _ => na - (intOf v17).toNat)
          case atStart => exact ⟨0, rfl, Nat.zero_le _, Z6.out, B6.out⟩
          case round =>
            clear Z6 B6
            obtain ⟨q, rfl, hq, HZ, HBs⟩ := hrel
            obtain ⟨sa0, sa1⟩ := sa_of HBs.out
            by_cases hqn : q < na
            · have bq : (q : Int) < (na : Int) := by omega
              obtain ⟨x, hx⟩ : ∃ x, x = at_[q]'(by rw [HA1.out]; exact hqn) := ⟨_, rfl⟩
              have hxr : Ir x := by rw [hx]; exact HA4.out _ (List.getElem_mem _)
              obtain ⟨bx, ox, hAe, hbx, hcx⟩ := HA3.out.at_ (k := q) (by rw [HA1.out]; exact hqn)
              rw [← hx] at hcx
              have HIs := Lib.hid (fun (v : World) (hv : Tw D w v G F s R F2 s) => KK.out.is_ v G F s x hv.p OO.out hxr)
              subst hAe
              have hcx' := (HZ.out.gr.cell (p := ⟨bx, ox + q, none⟩) hbx).trans hcx
              go_wp2_with fail
              obtain ⟨Au2, Ag2, hsv, _⟩ := HZ.out.r
              obtain ⟨cu2, cg2, l1, l2, q0, q1, q2, q3, r1, r2⟩ := hsv.cells
              rw [← HNU.out] at q2
              have RW := Lib.hid (show ∀ v : World, Grown wr v → v.cell? ⟨R, 2, none⟩ = some (.slice Au2 nu cu2) ∧ v.cell? ⟨a, 1, none⟩ = some (.slice (some ⟨bx, ox, none⟩) na ca) ∧ v.cell? ⟨bx, ox + q, none⟩ = some (.int .i64 x) ∧ RdZ v v.heap.size Au2 s.used from fun v hv => ⟨(hv.cell (p := ⟨R, 2, none⟩) (World.block_lt_of_cell? wr _ q2)).trans q2, (hv.cell (p := ⟨a, 1, none⟩) (World.block_lt_of_cell? wr _ sa1)).trans sa1, (hv.cell (p := ⟨bx, ox + q, none⟩) (World.block_lt_of_cell? wr _ hcx')).trans hcx', r1.grow hv⟩)
              clear hsv l1 l2 q0 q1 q2 q3 r1 r2 sa0 sa1 hcx hcx' hx
              go_loopw [18, 19] (fun v18 v19 wy => ∃ (j : Nat) (t : Bool), v18 = .bool t ∧ v19 = .int .i64 (j : Int) ∧ j ≤ nu ∧ Hid (t = (s.used.take j).contains x) ∧ Hid (Grown wr wy)) (fun _ v19 _ => nu - (intOf v19).toNat)
              case atStart => exact ⟨0, false, rfl, rfl, Nat.zero_le _, rfl, Grown.refl _⟩
              case round =>
                obtain ⟨j, t, rfl, rfl, hj, HT, HG⟩ := hrel
                obtain ⟨p0, p1, p2, p3⟩ := RW.out _ HG.out
                by_cases hjn : j < nu
                · have bj : (j : Int) < (nu : Int) := by omega
                  have hju : j < s.used.length := by rw [← HNU.out]; exact hjn
                  obtain ⟨y, hy⟩ : ∃ y, y = s.used[j] := ⟨_, rfl⟩
                  obtain ⟨b6, o6, hAu, hb6, hc6⟩ := p3.at_ hju
                  rw [← hy] at hc6
                  have HTn := Lib.hid (show (t || (y == x)) = (s.used.take (j + 1)).contains x by rw [take_has _ _ _ hju, ← HT.out, hy])
                  subst hAu
                  clear hy hju p3 HT
                  have GD := Lib.hid (show Grown _ wr.drew from Grown.trans HG.out (Below.refl _ wr).drew)
                  have S0 := Lib.hid (show wr.drew.cell? ⟨R, 2, none⟩ = some (.slice (some ⟨b6, o6, none⟩) nu cu2) ∧ wr.drew.cell? ⟨a, 1, none⟩ = some (.slice (some ⟨bx, ox, none⟩) na ca) ∧ wr.drew.cell? ⟨bx, ox + q, none⟩ = some (.int .i64 x) ∧ wr.drew.cell? ⟨b6, o6 + j, none⟩ = some (.int .i64 y) from ⟨p0, p1, p2, hc6⟩)
                  clear p1 p2 hc6
                  go_wp2_with fail
                  clear p0
                  refine restS_begin (fun v : World => v.cell? ⟨R, 2, none⟩ = some (.slice (some ⟨b6, o6, none⟩) nu cu2) ∧ v.cell? ⟨a, 1, none⟩ = some (.slice (some ⟨bx, ox, none⟩) na ca) ∧ v.cell? ⟨bx, ox + q, none⟩ = some (.int .i64 x) ∧ v.cell? ⟨b6, o6 + j, none⟩ = some (.int .i64 y)) (by kernel_rfl) ?_
                  generalize wr.drew = wd at GD S0 ⊢
                  cases t with
                  | true =>
                    refine restS_take (i := 0) S0.out rfl (by kernel_rfl) (by kernel_rfl) (by kernel_rfl) (by rfl) (fun v hv => by go_simp; try with_reducible rfl) ?_
                    try simp only [Act.put, List.setIfInBounds_toArray, List.set_cons_zero, List.set_cons_succ]
                    refine restS_take (i := 1) S0.out rfl (by kernel_rfl) (by kernel_rfl) (by kernel_rfl) (by rfl) (fun v hv => by go_simp; try with_reducible rfl) ?_
                    try simp only [Act.put, List.setIfInBounds_toArray, List.set_cons_zero, List.set_cons_succ]
                    refine restS_pass (i := 2) S0.out rfl (by kernel_rfl) (by kernel_rfl) (by kernel_rfl) (by rfl) ?_
                    try simp only [Act.put, List.setIfInBounds_toArray, List.set_cons_zero, List.set_cons_succ]
                    refine restS_pass (i := 3) S0.out rfl (by kernel_rfl) (by kernel_rfl) (by kernel_rfl) (by rfl) ?_
                    try simp only [Act.put, List.setIfInBounds_toArray, List.set_cons_zero, List.set_cons_succ]
                    refine restS_pass (i := 4) S0.out rfl (by kernel_rfl) (by kernel_rfl) (by kernel_rfl) (by rfl) ?_
                    try simp only [Act.put, List.setIfInBounds_toArray, List.set_cons_zero, List.set_cons_succ]
                    refine restS_pass (i := 5) S0.out rfl (by kernel_rfl) (by kernel_rfl) (by kernel_rfl) (by rfl) ?_
                    try simp only [Act.put, List.setIfInBounds_toArray, List.set_cons_zero, List.set_cons_succ]
                    refine restS_pass (i := 6) S0.out rfl (by kernel_rfl) (by kernel_rfl) (by kernel_rfl) (by rfl) ?_
                    try simp only [Act.put, List.setIfInBounds_toArray, List.set_cons_zero, List.set_cons_succ]
                    refine restS_pass (i := 7) S0.out rfl (by kernel_rfl) (by kernel_rfl) (by kernel_rfl) (by rfl) ?_
                    try simp only [Act.put, List.setIfInBounds_toArray, List.set_cons_zero, List.set_cons_succ]
                    refine restS_pass (i := 8) S0.out rfl (by kernel_rfl) (by kernel_rfl) (by kernel_rfl) (by rfl) ?_
                    try simp only [Act.put, List.setIfInBounds_toArray, List.set_cons_zero, List.set_cons_succ]
                    refine restS_pass (i := 9) S0.out rfl (by kernel_rfl) (by kernel_rfl) (by kernel_rfl) (by rfl) ?_
                    try simp only [Act.put, List.setIfInBounds_toArray, List.set_cons_zero, List.set_cons_succ]
                    refine restS_pass (i := 10) S0.out rfl (by kernel_rfl) (by kernel_rfl) (by kernel_rfl) (by rfl) ?_
                    try simp only [Act.put, List.setIfInBounds_toArray, List.set_cons_zero, List.set_cons_succ]
                    refine restS_pass (i := 11) S0.out rfl (by kernel_rfl) (by kernel_rfl) (by kernel_rfl) (by rfl) ?_
                    try simp only [Act.put, List.setIfInBounds_toArray, List.set_cons_zero, List.set_cons_succ]
                    refine restS_pass (i := 12) S0.out rfl (by kernel_rfl) (by kernel_rfl) (by kernel_rfl) (by rfl) ?_
                    try simp only [Act.put, List.setIfInBounds_toArray, List.set_cons_zero, List.set_cons_succ]
                    refine restS_pass (i := 13) S0.out rfl (by kernel_rfl) (by kernel_rfl) (by kernel_rfl) (by rfl) ?_
                    try simp only [Act.put, List.setIfInBounds_toArray, List.set_cons_zero, List.set_cons_succ]
                    refine restS_pass (i := 14) S0.out rfl (by kernel_rfl) (by kernel_rfl) (by kernel_rfl) (by rfl) ?_
                    try simp only [Act.put, List.setIfInBounds_toArray, List.set_cons_zero, List.set_cons_succ]
                    refine restS_take (i := 15) S0.out rfl (by kernel_rfl) (by kernel_rfl) (by kernel_rfl) (by rfl) (fun v hv => by go_simp; try with_reducible rfl) ?_
                    try simp only [Act.put, List.setIfInBounds_toArray, List.set_cons_zero, List.set_cons_succ]
                    refine restS_take (i := 16) S0.out rfl (by kernel_rfl) (by kernel_rfl) (by kernel_rfl) (by rfl) (fun v hv => by go_simp; try with_reducible rfl) ?_
                    try simp only [Act.put, List.setIfInBounds_toArray, List.set_cons_zero, List.set_cons_succ]
                    refine restS_done (by kernel_rfl) ?_
                    go_wp2
                    exact ⟨⟨j + 1, true, rfl, by simp, by omega, HTn.out, GD.out⟩, by simp [intOf]; omega⟩
                  | false =>
                    refine restS_take (i := 0) S0.out rfl (by kernel_rfl) (by kernel_rfl) (by kernel_rfl) (by rfl) (fun v hv => by obtain ⟨s0, s1, s2, s3⟩ := hv; go_simp; try with_reducible rfl) ?_
                    try simp only [Act.put, List.setIfInBounds_toArray, List.set_cons_zero, List.set_cons_succ]
                    refine restS_take (i := 1) S0.out rfl (by kernel_rfl) (by kernel_rfl) (by kernel_rfl) (by rfl) (fun v hv => by obtain ⟨s0, s1, s2, s3⟩ := hv; go_simp; try with_reducible rfl) ?_
                    try simp only [Act.put, List.setIfInBounds_toArray, List.set_cons_zero, List.set_cons_succ]
                    refine restS_take (i := 2) S0.out rfl (by kernel_rfl) (by kernel_rfl) (by kernel_rfl) (by rfl) (fun v hv => by obtain ⟨s0, s1, s2, s3⟩ := hv; go_simp; try with_reducible rfl) ?_
                    try simp only [Act.put, List.setIfInBounds_toArray, List.set_cons_zero, List.set_cons_succ]
                    refine restS_take (i := 3) S0.out rfl (by kernel_rfl) (by kernel_rfl) (by kernel_rfl) (by rfl) (fun v hv => by obtain ⟨s0, s1, s2, s3⟩ := hv; go_simp; try with_reducible rfl) ?_
                    try simp only [Act.put, List.setIfInBounds_toArray, List.set_cons_zero, List.set_cons_succ]
                    refine restS_take (i := 4) S0.out rfl (by kernel_rfl) (by kernel_rfl) (by kernel_rfl) (by rfl) (fun v hv => by obtain ⟨s0, s1, s2, s3⟩ := hv; go_simp; try with_reducible rfl) ?_
                    try simp only [Act.put, List.setIfInBounds_toArray, List.set_cons_zero, List.set_cons_succ]
                    refine restS_take (i := 5) S0.out rfl (by kernel_rfl) (by kernel_rfl) (by kernel_rfl) (by rfl) (fun v hv => by obtain ⟨s0, s1, s2, s3⟩ := hv; go_simp; try with_reducible rfl) ?_
                    try simp only [Act.put, List.setIfInBounds_toArray, List.set_cons_zero, List.set_cons_succ]
                    refine restS_take (i := 6) S0.out rfl (by kernel_rfl) (by kernel_rfl) (by kernel_rfl) (by rfl) (fun v hv => by obtain ⟨s0, s1, s2, s3⟩ := hv; go_simp; try with_reducible rfl) ?_
                    try simp only [Act.put, List.setIfInBounds_toArray, List.set_cons_zero, List.set_cons_succ]
                    refine restS_take (i := 7) S0.out rfl (by kernel_rfl) (by kernel_rfl) (by kernel_rfl) (by rfl) (fun v hv => by obtain ⟨s0, s1, s2, s3⟩ := hv; go_simp; try with_reducible rfl) ?_
                    try simp only [Act.put, List.setIfInBounds_toArray, List.set_cons_zero, List.set_cons_succ]
                    refine restS_take (i := 8) S0.out rfl (by kernel_rfl) (by kernel_rfl) (by kernel_rfl) (by rfl) (fun v hv => by obtain ⟨s0, s1, s2, s3⟩ := hv; go_simp; try with_reducible rfl) ?_
                    try simp only [Act.put, List.setIfInBounds_toArray, List.set_cons_zero, List.set_cons_succ]
                    refine restS_take (i := 9) S0.out rfl (by kernel_rfl) (by kernel_rfl) (by kernel_rfl) (by rfl) (fun v hv => by obtain ⟨s0, s1, s2, s3⟩ := hv; go_simp; try with_reducible rfl) ?_
                    try simp only [Act.put, List.setIfInBounds_toArray, List.set_cons_zero, List.set_cons_succ]
                    refine restS_take (i := 10) S0.out rfl (by kernel_rfl) (by kernel_rfl) (by kernel_rfl) (by rfl) (fun v hv => by obtain ⟨s0, s1, s2, s3⟩ := hv; go_simp; try with_reducible rfl) ?_
                    try simp only [Act.put, List.setIfInBounds_toArray, List.set_cons_zero, List.set_cons_succ]
                    refine restS_take (i := 11) S0.out rfl (by kernel_rfl) (by kernel_rfl) (by kernel_rfl) (by rfl) (fun v hv => by obtain ⟨s0, s1, s2, s3⟩ := hv; go_simp; try with_reducible rfl) ?_
                    try simp only [Act.put, List.setIfInBounds_toArray, List.set_cons_zero, List.set_cons_succ]
                    refine restS_take (i := 12) S0.out rfl (by kernel_rfl) (by kernel_rfl) (by kernel_rfl) (by rfl) (fun v hv => by obtain ⟨s0, s1, s2, s3⟩ := hv; go_simp; try with_reducible rfl) ?_
                    try simp only [Act.put, List.setIfInBounds_toArray, List.set_cons_zero, List.set_cons_succ]
                    refine restS_take (i := 13) S0.out rfl (by kernel_rfl) (by kernel_rfl) (by kernel_rfl) (by rfl) (fun v hv => by obtain ⟨s0, s1, s2, s3⟩ := hv; go_simp; try with_reducible rfl) ?_
                    try simp only [Act.put, List.setIfInBounds_toArray, List.set_cons_zero, List.set_cons_succ]
                    refine restS_take (i := 14) S0.out rfl (by kernel_rfl) (by kernel_rfl) (by kernel_rfl) (by rfl) (fun v hv => by obtain ⟨s0, s1, s2, s3⟩ := hv; go_simp; try with_reducible rfl) ?_
                    try simp only [Act.put, List.setIfInBounds_toArray, List.set_cons_zero, List.set_cons_succ]
                    refine restS_take (i := 15) S0.out rfl (by kernel_rfl) (by kernel_rfl) (by kernel_rfl) (by rfl) (fun v hv => by obtain ⟨s0, s1, s2, s3⟩ := hv; go_simp; try with_reducible rfl) ?_
                    try simp only [Act.put, List.setIfInBounds_toArray, List.set_cons_zero, List.set_cons_succ]
                    refine restS_take (i := 16) S0.out rfl (by kernel_rfl) (by kernel_rfl) (by kernel_rfl) (by rfl) (fun v hv => by obtain ⟨s0, s1, s2, s3⟩ := hv; go_simp; try with_reducible rfl) ?_
                    try simp only [Act.put, List.setIfInBounds_toArray, List.set_cons_zero, List.set_cons_succ]
                    refine restS_done (by kernel_rfl) ?_
                    go_wp2
                    exact ⟨⟨j + 1, y == x, by simp, by simp, by omega, HTn.out, GD.out⟩, by simp [intOf]; omega⟩
                · have bj : ¬ (j : Int) < (nu : Int) := by omega
                  have HTn := Lib.hid (show t = s.used.contains x by rw [HT.out, List.take_of_length_le (by rw [← HNU.out]; omega)])
                  clear HT
                  clear p3
                  go_wp2_with fail
                  refine (HIs.out _ (HZ.out.grow KK.out HG.out)).mono ?_
                  rintro e w9 ⟨rfl, hg9⟩
                  rw [← HTn.out]
                  have Z9 := Lib.hid ((HZ.out.grow KK.out HG.out).grow KK.out hg9)
                  have B9 := Lib.hid ((HBs.out.grow HG.out).grow hg9)
                  clear hg9
                  go_wp2
                  exact ⟨⟨q + 1, by simp, by omega, Z9.out, B9.out⟩, by simp [intOf]; omega⟩
            · have bq : ¬ (q : Int) < (na : Int) := by omega
              go_wp2
              exact ⟨⟨i + 1, F, F2, s, by simp, by omega, OO.out, LL.out, HZ.out⟩, by simp [intOf]; omega⟩
    · have bi : ¬ ((i : Int) < (m : Int)) := by omega
      go_wp2
      go_ret
      exact ⟨rfl, HZ.out.gr⟩
end
end Go.Proofs.Ytdeojgdjjckoeaa.S15
