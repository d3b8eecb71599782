/-
  OracleDerives out of the program's contracts.
-/
import Derived.Test.YtjklgmhaebjjaaaMgOsameMain37
import Derived.Test.YtjklgmhaebjjaaaMgOsameMain43
namespace Go.Proofs.Ytjklgmhaebjjaaa.S12
open S11
open Go.RowKit
set_option linter.unusedVariables false
set_option linter.unusedSimpArgs false

theorem wpList_val {P : Program} {ops : Array Oper} {Q : Exit → Act → World → Prop} {rest : List Oper} {op : Oper} {a : Act} {W : World} {v : Value} (hgd : op.guard = none) (h : (execOp a.eval op).run P W = .ok (.value v) W) (hk : wpList P ops Q rest (a.put op.dst v) W) : wpList P ops Q (op :: rest) a W :=
  wpList_plain hgd fun K hK => by
    unfold Oper.wp
    simp only [h]
    exact hK _ _ hk
theorem slbeqO (p q : List UInt8) : ((ByteArray.mk p.toArray).toList == (ByteArray.mk q.toArray).toList) = decide (p = q) := by
  have h : ∀ p : List UInt8, (ByteArray.mk p.toArray).toList = p := fun p => by simp
  rw [h, h, Bool.eq_iff_iff]
  simp
theorem len64 (st : St) (m : List UInt8) (c : UInt8) (h : (der st m c).1.length = 64) : (idealM.derive st m c [] 64).1 = (der st m c).1 ∧ (idealM.derive st m c [] 64).2 = (der st m c).2 := by
  rw [derive64]
  exact ⟨List.take_of_length_le (by rw [h]; exact Nat.le_refl _), rfl⟩

set_option maxHeartbeats 8000000 in
set_option maxRecDepth 20000 in
theorem derives_walk {MR : Mod} {s0 : MR.σ} {T : Nat → World → Prop} {OI : Nat → Ob idealM} {OR : Nat → Ob MR} (K : OracleOk MR s0 T OI OR) (A : Option Addr) (n c : Nat) (seed : List UInt8) (m0 m1 : List UInt8) (c0 c1 : UInt8) (w : World) (hT : T w.heap.size w)
    (hA : Rd w w.heap.size A seed) (hn : seed.length = n) (hc : n ≤ c) (h0 : m0.length = 16) (h1 : m1.length = 16) :
    Calls Try.prog 4 #[.slice A n c, .agg (bvs (m0 ++ m1)).toArray, .agg (bvs [c0, c1]).toArray] w fun e w' => e = .returned (.bool true) ∧ Below w.heap.size w w' := by
  have KK := Lib.hid K
  have HN := Lib.hid hn
  have HL0 := Lib.hid h0
  have HL1 := Lib.hid h1
  have GA := Lib.hid (alloc_below w (.cells (bvs (m0 ++ m1)).toArray 38))
  have DA := Lib.hid (heap_alloc_new w (.cells (bvs (m0 ++ m1)).toArray 38))
  have SA := Lib.hid (show (w.alloc (.cells (bvs (m0 ++ m1)).toArray 38)).heap.size = w.heap.size + 1 by simp)
  have GC := Lib.hid (alloc_below (w.alloc (.cells (bvs (m0 ++ m1)).toArray 38)) (.cells (bvs [c0, c1]).toArray 39))
  have DC := Lib.hid (heap_alloc_new (w.alloc (.cells (bvs (m0 ++ m1)).toArray 38)) (.cells (bvs [c0, c1]).toArray 39))
  have SC := Lib.hid (show ((w.alloc (.cells (bvs (m0 ++ m1)).toArray 38)).alloc (.cells (bvs [c0, c1]).toArray 39)).heap.size = w.heap.size + 2 by simp)
  rw [SA.out] at DC
  have HT2 := Lib.hid (K.tk _ w _ hT (Nat.le_refl _) (Grown.trans GA.out GC.out))
  have HA2 := Lib.hid (hA.below (Grown.trans GA.out GC.out))
  have HG2 := Lib.hid (show Grown w _ from Grown.trans GA.out GC.out)
  have HM2 := Lib.hid ((GC.out.block w.heap.size (by rw [SA.out]; omega)).trans DA.out)
  obtain ⟨VM, hVM⟩ : ∃ V, V = (bvs (m0 ++ m1)).toArray := ⟨_, rfl⟩
  obtain ⟨VC, hVC⟩ : ∃ V, V = (bvs [c0, c1]).toArray := ⟨_, rfl⟩
  have HVM := Lib.hid hVM
  have HVC := Lib.hid hVC
  rw [← hVM, ← hVC]
  clear hT hA hn h0 h1 GA DA GC K
  clear hVM hVC
  go_enter Try.func4, Try.ntmps4
  go_wp2_with fail
  rw [HVM.out, HVC.out]
  clear HVM HVC SA
  generalize (w.alloc _).alloc _ = W0 at DC SC HT2 HA2 HG2 HM2 ⊢
  obtain ⟨gm, hgm⟩ : ∃ g, g = w.heap.size := ⟨_, rfl⟩
  have RM := Lib.hid (show W0.rangeAt gm 0 (bvs m0) ∧ W0.rangeAt gm 16 (bvs m1) ∧ W0.cell? ⟨gm + 1, 0, none⟩ = some (.int .u8 (c0.toNat : Int)) ∧ W0.cell? ⟨gm + 1, 1, none⟩ = some (.int .u8 (c1.toNat : Int)) by
    rw [hgm]
    refine ⟨fun j v hv => ?_, fun j v hv => ?_, ?_, ?_⟩
    · have hj : j < 16 := by have := (List.getElem?_eq_some_iff.1 hv).1; rw [bvs_length, HL0.out] at this; exact this
      rw [Nat.zero_add, cell_of_row W0 w.heap.size j _ 38 (0, 0) HM2.out, ← hv]
      simp only [bvs, List.map_append, List.getElem?_toArray]
      rw [List.getElem?_append_left (by rw [List.length_map, HL0.out]; exact hj)]
    · rw [cell_of_row W0 w.heap.size (16 + j) _ 38 (0, 0) HM2.out, ← hv]
      simp only [bvs, List.map_append, List.getElem?_toArray]
      rw [List.getElem?_append_right (by rw [List.length_map, HL0.out]; omega), List.length_map, HL0.out]
      congr 1
      omega
    · rw [cell_of_row W0 (w.heap.size + 1) 0 _ 39 (0, 0) DC.out]; rfl
    · rw [cell_of_row W0 (w.heap.size + 1) 1 _ 39 (0, 0) DC.out]; rfl)
  have Hgm := Lib.hid (show gm + 1 < W0.heap.size by have := SC.out; omega)
  rw [← hgm]
  have HBw := Lib.hid (show w.heap.size ≤ W0.heap.size from HG2.out.size)
  clear HM2 DC SC hgm
  refine (awakeO KK.out w.heap.size W0 HT2.out HBw.out).mono ?_
  rintro e w1 ⟨rfl, hg1⟩
  have G1 := Lib.hid hg1
  have T1 := Lib.hid (KK.out.tk _ W0 w1 HT2.out HBw.out hg1)
  have HB1 := Lib.hid (show w.heap.size ≤ w1.heap.size from Nat.le_trans HBw.out hg1.size)
  clear hg1
  by_cases hbig : (n : Int) > 1500
  · go_wp2_with fail
    refine (awakeO KK.out w.heap.size w1 T1.out HB1.out).mono ?_
    rintro e w2 ⟨rfl, hg2⟩
    have HG := Lib.hid (Grown.trans HG2.out (Grown.trans G1.out hg2))
    go_wp2
    go_ret
    exact ⟨rfl, HG.out⟩
  have HMs := Lib.hid (show ∀ v, Grown W0 v → v.rangeAt gm 0 (bvs m0) ∧ v.rangeAt gm 16 (bvs m1) ∧ v.cell? ⟨gm + 1, 0, none⟩ = some (.int .u8 (c0.toNat : Int)) ∧ v.cell? ⟨gm + 1, 1, none⟩ = some (.int .u8 (c1.toNat : Int)) from fun v hv =>
    ⟨range_below RM.out.1 (by have := Hgm.out; omega) hv, range_below RM.out.2.1 (by have := Hgm.out; omega) hv, (hv.cell (p := ⟨gm + 1, 0, none⟩) Hgm.out).trans RM.out.2.2.1, (hv.cell (p := ⟨gm + 1, 1, none⟩) Hgm.out).trans RM.out.2.2.2⟩)
  have KI := Lib.hid (KK.out.pI w.heap.size)
  have hD := derives seed m0 m1 c0 c1 HL0.out HL1.out
  have HX1 := Lib.hid (len64 (emp0 seed) m0 c0 hD.2.1)
  have HX2 := Lib.hid (len64 (der (emp0 seed) m0 c0).2 m1 c1 hD.2.2.1)
  have HN1 := Lib.hid (show Nm (der (emp0 seed) m0 c0).2 5 by rw [← HX1.out.2]; exact idealM.derive_num (nm_emp seed) (by omega) _ _ _ _ (by omega))
  have HN2 := Lib.hid (show Nm (der (der (emp0 seed) m0 c0).2 m1 c1).2 10 by rw [← HX2.out.2]; exact idealM.derive_num HN1.out (by omega) _ _ _ _ (by omega))
  obtain ⟨Rb, hRb⟩ : ∃ l, l = (der (der (emp0 seed) m0 c0).2 m1 c1).1 := ⟨_, rfl⟩
  obtain ⟨st2, hst2⟩ : ∃ l, l = (der (der (emp0 seed) m0 c0).2 m1 c1).2 := ⟨_, rfl⟩
  rw [← hRb, ← hst2] at hD
  rw [← hRb, ← hst2] at HX2
  rw [← hst2] at HN2
  obtain ⟨Ra, hRa⟩ : ∃ l, l = (der (emp0 seed) m0 c0).1 := ⟨_, rfl⟩
  obtain ⟨st1, hst1⟩ : ∃ l, l = (der (emp0 seed) m0 c0).2 := ⟨_, rfl⟩
  rw [← hRa, ← hst1] at hD HX1
  rw [← hst1] at HX2 HN1
  have HD := Lib.hid hD
  clear hD hRb hst2 hRa hst1
  have A1 := Lib.hid (show Rd w1 w1.heap.size A seed from (HA2.out.more HBw.out).grow G1.out)
  go_wp2_with fail
  refine (KK.out.ideal w.heap.size w1 A n c seed T1.out HB1.out A1.out HN.out hc (by omega)).mono ?_
  rintro e w2 ⟨G, F, rfl, hO, hF, hg⟩
  have G2 := Lib.hid (Grown.trans G1.out hg)
  have HO2 := Lib.hid hO
  have HF2 := Lib.hid (show ∀ k, F k → W0.heap.size ≤ k from fun k hk => Nat.le_trans G1.out.size (hF k hk))
  clear hO hF hg A1 T1 RM HA2
  go_wp2_with fail
  have GG := Lib.hid (show Grown w2 w2.drew from (Below.refl _ w2).drew)
  have HO3 := Lib.hid (KI.out.toKept.grow HO2.out (Nat.le_trans HBw.out G2.out.size) GG.out)
  have G3 := Lib.hid (Grown.trans G2.out GG.out)
  refine restS_begin (fun v : World => Grown W0 v) (by kernel_rfl) ?_
  generalize w2.drew = w3 at HO3 G3 GG ⊢
  clear GG HO2
  have hsl := fun V : World => cut16o V gm 0
  refine restS_take (i := 0) G3.out rfl (by kernel_rfl) (by kernel_rfl) (by kernel_rfl) (by rfl) (fun v hv => by obtain ⟨r1, r2, q1, q2⟩ := HMs.out v hv; go_simp; try with_reducible rfl) ?_
  try simp only [Act.put, List.setIfInBounds_toArray, List.set_cons_zero, List.set_cons_succ]
  refine restS_take (i := 1) G3.out rfl (by kernel_rfl) (by kernel_rfl) (by kernel_rfl) (by rfl) (fun v hv => by obtain ⟨r1, r2, q1, q2⟩ := HMs.out v hv; go_simp; try with_reducible rfl) ?_
  try simp only [Act.put, List.setIfInBounds_toArray, List.set_cons_zero, List.set_cons_succ]
  refine restS_take (i := 2) G3.out rfl (by kernel_rfl) (by kernel_rfl) (by kernel_rfl) (by rfl) (fun v hv => by obtain ⟨r1, r2, q1, q2⟩ := HMs.out v hv; go_simp; try with_reducible rfl) ?_
  try simp only [Act.put, List.setIfInBounds_toArray, List.set_cons_zero, List.set_cons_succ]
  refine restS_take (i := 3) G3.out rfl (by kernel_rfl) (by kernel_rfl) (by kernel_rfl) (by rfl) (fun v hv => by obtain ⟨r1, r2, q1, q2⟩ := HMs.out v hv; go_simp; try with_reducible rfl) ?_
  try simp only [Act.put, List.setIfInBounds_toArray, List.set_cons_zero, List.set_cons_succ]
  refine restS_take (i := 4) G3.out rfl (by kernel_rfl) (by kernel_rfl) (by kernel_rfl) (by rfl) (fun v hv => by obtain ⟨r1, r2, q1, q2⟩ := HMs.out v hv; go_simp; try with_reducible rfl) ?_
  try simp only [Act.put, List.setIfInBounds_toArray, List.set_cons_zero, List.set_cons_succ]
  clear hsl
  refine restS_lone (i := 5) rfl (by kernel_rfl) (by rfl) (fun K hK => ?_)
  go_simp
  have BM := Lib.hid (show Bes w3 F (some ⟨gm, 0, none⟩) 16 16 m0 from ⟨range_rdB (HMs.out w3 G3.out).1 (by have h1 := Hgm.out; have h2 := G3.out.size; omega), HL0.out, Nat.le_refl _, fun x hx _ hf => by
    simp only [Option.some.injEq] at hx
    subst hx
    have h1 := HF2.out _ hf
    have h2 := Hgm.out
    simp at h1
    omega⟩)
  refine (KI.out.derive w3 G F (emp0 seed) 0 (some ⟨gm, 0, none⟩) 16 16 m0 c0 none 0 0 [] 64 HO3.out (nm_emp seed) (by omega) BM.out (by omega) (besNil _ _) (by omega) (by omega)).mono ?_
  rw [HX1.out.1, HX1.out.2]
  rintro e w4 ⟨Aa, ca, rfl, hca, hr, hnw, F4, hO, hF4, hC, hoff⟩
  have HO4 := Lib.hid hO
  have HF4 := Lib.hid (show ∀ k, F4 k → W0.heap.size ≤ k from fun k hk => by
    rcases hF4 k hk with h | h
    · exact HF2.out k h
    · exact Nat.le_trans G3.out.size h)
  have G4 := Lib.hid (show Grown W0 w4 from Below.trans G3.out (ch_belowB hC HF2.out G3.out.size))
  have RA4 := Lib.hid (show Bes w4 F4 Aa 64 ca Ra from ⟨hr, HD.out.2.1, hca, hoff⟩)
  clear hO hF4 hC hr hnw hoff hca HO3 HF2 G3 BM
  refine hK.out _ _ G4.out ?_
  clear hK K
  try simp only [Act.put, List.setIfInBounds_toArray, List.set_cons_zero, List.set_cons_succ]
  refine restS_take (i := 6) G4.out rfl (by kernel_rfl) (by kernel_rfl) (by kernel_rfl) (by rfl) (fun v hv => by obtain ⟨r1, r2, q1, q2⟩ := HMs.out v hv; go_simp; try with_reducible rfl) ?_
  try simp only [Act.put, List.setIfInBounds_toArray, List.set_cons_zero, List.set_cons_succ]
  refine restS_take (i := 7) G4.out rfl (by kernel_rfl) (by kernel_rfl) (by kernel_rfl) (by rfl) (fun v hv => by obtain ⟨r1, r2, q1, q2⟩ := HMs.out v hv; go_simp; try with_reducible rfl) ?_
  try simp only [Act.put, List.setIfInBounds_toArray, List.set_cons_zero, List.set_cons_succ]
  refine restS_take (i := 8) G4.out rfl (by kernel_rfl) (by kernel_rfl) (by kernel_rfl) (by rfl) (fun v hv => by obtain ⟨r1, r2, q1, q2⟩ := HMs.out v hv; go_simp; try with_reducible rfl) ?_
  try simp only [Act.put, List.setIfInBounds_toArray, List.set_cons_zero, List.set_cons_succ]
  refine restS_take (i := 9) G4.out rfl (by kernel_rfl) (by kernel_rfl) (by kernel_rfl) (by rfl) (fun v hv => by obtain ⟨r1, r2, q1, q2⟩ := HMs.out v hv; go_simp; try with_reducible rfl) ?_
  try simp only [Act.put, List.setIfInBounds_toArray, List.set_cons_zero, List.set_cons_succ]
  refine restS_take (i := 10) G4.out rfl (by kernel_rfl) (by kernel_rfl) (by kernel_rfl) (by rfl) (fun v hv => by obtain ⟨r1, r2, q1, q2⟩ := HMs.out v hv; go_simp; try with_reducible rfl) ?_
  try simp only [Act.put, List.setIfInBounds_toArray, List.set_cons_zero, List.set_cons_succ]
  refine restS_done (by kernel_rfl) ?_
  go_wp2_with fail
  refine (KI.out.queries w4 G F4 st1 5 HO4.out HN1.out (by omega)).mono ?_
  rw [show ((idealM.cnt st1 : Nat) : Int) = 2 by rw [show idealM.cnt st1 = 2 from HD.out.1]; rfl]
  rintro e w5 ⟨rfl, hg⟩
  have HO5 := Lib.hid (KI.out.toKept.grow HO4.out (Nat.le_trans HBw.out G4.out.size) hg)
  have G5 := Lib.hid (Grown.trans G4.out hg)
  have RA5 := Lib.hid (RA4.out.grow hg)
  clear hg HO4 RA4 G4
  go_wp2_with fail
  try simp only [Act.put, List.setIfInBounds_toArray, List.set_cons_zero, List.set_cons_succ]
  have GG := Lib.hid (show Grown w5 w5.drew from (Below.refl _ w5).drew)
  have HO6 := Lib.hid (KI.out.toKept.grow HO5.out (Nat.le_trans HBw.out G5.out.size) GG.out)
  have G6 := Lib.hid (Grown.trans G5.out GG.out)
  have RA6 := Lib.hid (RA5.out.grow GG.out)
  refine restS_begin (fun v : World => Grown W0 v) (by kernel_rfl) ?_
  generalize w5.drew = w6 at HO6 G6 GG RA6 ⊢
  clear GG HO5 RA5 G5
  have hsl := fun V : World => cut16o V gm 16
  refine restS_take (i := 0) G6.out rfl (by kernel_rfl) (by kernel_rfl) (by kernel_rfl) (by rfl) (fun v hv => by obtain ⟨r1, r2, q1, q2⟩ := HMs.out v hv; go_simp; try with_reducible rfl) ?_
  try simp only [Act.put, List.setIfInBounds_toArray, List.set_cons_zero, List.set_cons_succ]
  refine restS_take (i := 1) G6.out rfl (by kernel_rfl) (by kernel_rfl) (by kernel_rfl) (by rfl) (fun v hv => by obtain ⟨r1, r2, q1, q2⟩ := HMs.out v hv; go_simp; try with_reducible rfl) ?_
  try simp only [Act.put, List.setIfInBounds_toArray, List.set_cons_zero, List.set_cons_succ]
  refine restS_take (i := 2) G6.out rfl (by kernel_rfl) (by kernel_rfl) (by kernel_rfl) (by rfl) (fun v hv => by obtain ⟨r1, r2, q1, q2⟩ := HMs.out v hv; go_simp; try with_reducible rfl) ?_
  try simp only [Act.put, List.setIfInBounds_toArray, List.set_cons_zero, List.set_cons_succ]
  refine restS_take (i := 3) G6.out rfl (by kernel_rfl) (by kernel_rfl) (by kernel_rfl) (by rfl) (fun v hv => by obtain ⟨r1, r2, q1, q2⟩ := HMs.out v hv; go_simp; try with_reducible rfl) ?_
  try simp only [Act.put, List.setIfInBounds_toArray, List.set_cons_zero, List.set_cons_succ]
  refine restS_take (i := 4) G6.out rfl (by kernel_rfl) (by kernel_rfl) (by kernel_rfl) (by rfl) (fun v hv => by obtain ⟨r1, r2, q1, q2⟩ := HMs.out v hv; go_simp; try with_reducible rfl) ?_
  try simp only [Act.put, List.setIfInBounds_toArray, List.set_cons_zero, List.set_cons_succ]
  clear hsl
  refine restS_lone (i := 5) rfl (by kernel_rfl) (by rfl) (fun K hK => ?_)
  go_simp
  have BM := Lib.hid (show Bes w6 F4 (some ⟨gm, 16, none⟩) 16 16 m1 from ⟨range_rdB (HMs.out w6 G6.out).2.1 (by have h1 := Hgm.out; have h2 := G6.out.size; omega), HL1.out, Nat.le_refl _, fun x hx _ hf => by
    simp only [Option.some.injEq] at hx
    subst hx
    have h1 := HF4.out _ hf
    have h2 := Hgm.out
    simp at h1
    omega⟩)
  refine (KI.out.derive w6 G F4 st1 5 (some ⟨gm, 16, none⟩) 16 16 m1 c1 none 0 0 [] 64 HO6.out HN1.out (by omega) BM.out (by omega) (besNil _ _) (by omega) (by omega)).mono ?_
  rw [HX2.out.1, HX2.out.2]
  rintro e w7 ⟨Ab, cb, rfl, hcb, hr, hnw, F7, hO, hF7, hC, hoff⟩
  have HO7 := Lib.hid hO
  have G7 := Lib.hid (show Grown W0 w7 from Below.trans G6.out (ch_belowB hC HF4.out G6.out.size))
  have RB7 := Lib.hid (show Bes w7 F7 Ab 64 cb Rb from ⟨hr, HD.out.2.2.1, hcb, hoff⟩)
  have RA7 := Lib.hid (RA6.out.on hF7 hC)
  clear hO hF7 hC hr hnw hoff hcb HO6 HF4 G6 BM RA6
  refine hK.out _ _ G7.out ?_
  clear hK K
  try simp only [Act.put, List.setIfInBounds_toArray, List.set_cons_zero, List.set_cons_succ]
  refine restS_take (i := 6) G7.out rfl (by kernel_rfl) (by kernel_rfl) (by kernel_rfl) (by rfl) (fun v hv => by obtain ⟨r1, r2, q1, q2⟩ := HMs.out v hv; go_simp; try with_reducible rfl) ?_
  try simp only [Act.put, List.setIfInBounds_toArray, List.set_cons_zero, List.set_cons_succ]
  refine restS_take (i := 7) G7.out rfl (by kernel_rfl) (by kernel_rfl) (by kernel_rfl) (by rfl) (fun v hv => by obtain ⟨r1, r2, q1, q2⟩ := HMs.out v hv; go_simp; try with_reducible rfl) ?_
  try simp only [Act.put, List.setIfInBounds_toArray, List.set_cons_zero, List.set_cons_succ]
  refine restS_take (i := 8) G7.out rfl (by kernel_rfl) (by kernel_rfl) (by kernel_rfl) (by rfl) (fun v hv => by obtain ⟨r1, r2, q1, q2⟩ := HMs.out v hv; go_simp; try with_reducible rfl) ?_
  try simp only [Act.put, List.setIfInBounds_toArray, List.set_cons_zero, List.set_cons_succ]
  refine restS_take (i := 9) G7.out rfl (by kernel_rfl) (by kernel_rfl) (by kernel_rfl) (by rfl) (fun v hv => by obtain ⟨r1, r2, q1, q2⟩ := HMs.out v hv; go_simp; try with_reducible rfl) ?_
  try simp only [Act.put, List.setIfInBounds_toArray, List.set_cons_zero, List.set_cons_succ]
  refine restS_take (i := 10) G7.out rfl (by kernel_rfl) (by kernel_rfl) (by kernel_rfl) (by rfl) (fun v hv => by obtain ⟨r1, r2, q1, q2⟩ := HMs.out v hv; go_simp; try with_reducible rfl) ?_
  try simp only [Act.put, List.setIfInBounds_toArray, List.set_cons_zero, List.set_cons_succ]
  refine restS_done (by kernel_rfl) ?_
  go_wp2_with fail
  refine (KI.out.queries w7 G F7 st2 10 HO7.out HN2.out (by omega)).mono ?_
  rw [show idealM.cnt st2 = st2.cnt from rfl]
  rintro e w8 ⟨rfl, hg⟩
  have HO8 := Lib.hid (KI.out.toKept.grow HO7.out (Nat.le_trans HBw.out G7.out.size) hg)
  have G8 := Lib.hid (Grown.trans G7.out hg)
  have RA8 := Lib.hid (RA7.out.grow hg)
  have RB8 := Lib.hid (RB7.out.grow hg)
  clear hg HO7 RA7 RB7 G7
  go_wp2_with fail
  refine (KI.out.bad w8 G F7 st2 HO8.out).mono ?_
  rw [show idealM.bad st2 = st2.bad from rfl]
  rintro e w9 ⟨rfl, hg⟩
  have G9 := Lib.hid (Grown.trans G8.out hg)
  have RA9 := Lib.hid (RA8.out.grow hg)
  have RB9 := Lib.hid (RB8.out.grow hg)
  clear hg HO8 RA8 RB8 G8
  have GE := Lib.hid (show Below w.heap.size w w9 from Below.trans HG2.out (Below.mono G9.out HBw.out))
  by_cases hbad : st2.bad = true
  · rw [hbad]
    go_wp2
    go_ret
    exact ⟨rfl, GE.out⟩
  have hb2 : st2.bad = false := by simpa using hbad
  have HE := Lib.hid (HD.out.2.2.2 hb2)
  rw [hb2]
  clear hbad hb2 HD HX1 HX2 HN1 HN2
  obtain ⟨SA, hSA⟩ : ∃ S : ByteArray, S = ⟨Ra.toArray⟩ := ⟨_, rfl⟩
  obtain ⟨SB, hSB⟩ : ∃ S : ByteArray, S = ⟨Rb.toArray⟩ := ⟨_, rfl⟩
  have hcA : (convert 22 9 (.slice Aa 64 ca)).run Try.prog w9 = .ok (.string SA) w9 := by
    have := conv RA9.out.1 ca
    rw [RA9.out.2.1] at this
    rw [hSA]; exact this
  have hcB : (convert 22 9 (.slice Ab 64 cb)).run Try.prog w9 = .ok (.string SB) w9 := by
    have := conv RB9.out.1 cb
    rw [RB9.out.2.1] at this
    rw [hSB]; exact this
  obtain ⟨r1, r2, q1, q2⟩ := HMs.out w9 G9.out
  have R1 := Lib.hid r1
  have R2 := Lib.hid r2
  have HSA := Lib.hid hSA
  have HSB := Lib.hid hSB
  clear r1 r2 hSA hSB
  by_cases em : m0 = m1
  · have Hem := Lib.hid (show decide (m0 = m1) = true from decide_eq_true em)
    by_cases ec : c0 = c1
    · have HQ := Lib.hid (show (st2.cnt : Nat) = 2 ∧ Ra = Rb by
        rcases HE.out with ⟨_, h1, h2⟩ | ⟨h, _⟩
        · exact ⟨h1, h2⟩
        · exact absurd ⟨em, ec⟩ h)
      clear em
      subst ec
      have hsb : SB = SA := by rw [HSB.out, HSA.out, HQ.out.2]
      subst hsb
      have hcnt : (st2.cnt : Int) = 2 := by have := HQ.out.1; omega
      rw [hcnt]
      clear hcnt HQ HE
      go_wp2_with (first
        | (refine wpList_plain rfl fun K hK => wp_load_mid 25 (.tmp 59) rfl gm 0 rfl (bvs m0) _ R1.out u16a rfl (sz16 _ HL0.out) ?_
           refine hK _ _ ?_)
        | (refine wpList_plain rfl fun K hK => wp_load_mid 25 (.tmp 61) rfl gm 16 rfl (bvs m1) _ R2.out u16a rfl (sz16 _ HL1.out) ?_
           refine hK _ _ ?_)
        | (refine wpList_val rfl (exec_eq_two m0 m1 25 16 u16a gt16 HL0.out HL1.out (.tmp 60) (.tmp 62) rfl rfl w9) ?_
           rw [Hem.out]))
      go_ret
      exact ⟨by simp, GE.out⟩
    · have HQ := Lib.hid (show ((st2.cnt : Int) == 2) = false ∧ (SA.toList == SB.toList) = false by
        rcases HE.out with ⟨⟨_, h⟩, _⟩ | ⟨_, h1, h2⟩
        · exact absurd h ec
        · exact ⟨beq_eq_false_iff_ne.2 (by omega), by rw [HSA.out, HSB.out, slbeqO]; exact decide_eq_false h2⟩)
      have hcn := HQ.out.1
      have hsn := HQ.out.2
      have hcc : ((c0.toNat : Int) == (c1.toNat : Int)) = false := beq_eq_false_iff_ne.2 (fun e => ec (UInt8.toNat_inj.1 (by omega)))
      clear em ec HQ HE
      go_wp2_with (first
        | (refine wpList_plain rfl fun K hK => wp_load_mid 25 (.tmp 59) rfl gm 0 rfl (bvs m0) _ R1.out u16a rfl (sz16 _ HL0.out) ?_
           refine hK _ _ ?_)
        | (refine wpList_plain rfl fun K hK => wp_load_mid 25 (.tmp 61) rfl gm 16 rfl (bvs m1) _ R2.out u16a rfl (sz16 _ HL1.out) ?_
           refine hK _ _ ?_)
        | (refine wpList_val rfl (exec_eq_two m0 m1 25 16 u16a gt16 HL0.out HL1.out (.tmp 60) (.tmp 62) rfl rfl w9) ?_
           rw [Hem.out]))
      go_ret
      exact ⟨by simp, GE.out⟩
  · have Hem := Lib.hid (show decide (m0 = m1) = false from decide_eq_false em)
    have HQ := Lib.hid (show ((st2.cnt : Int) == 2) = false ∧ (SA.toList == SB.toList) = false by
      rcases HE.out with ⟨⟨h, _⟩, _⟩ | ⟨_, h1, h2⟩
      · exact absurd h em
      · exact ⟨beq_eq_false_iff_ne.2 (by omega), by rw [HSA.out, HSB.out, slbeqO]; exact decide_eq_false h2⟩)
    have hcn := HQ.out.1
    have hsn := HQ.out.2
    clear em HQ HE
    go_wp2_with (first
      | (refine wpList_plain rfl fun K hK => wp_load_mid 25 (.tmp 59) rfl gm 0 rfl (bvs m0) _ R1.out u16a rfl (sz16 _ HL0.out) ?_
         refine hK _ _ ?_)
      | (refine wpList_plain rfl fun K hK => wp_load_mid 25 (.tmp 61) rfl gm 16 rfl (bvs m1) _ R2.out u16a rfl (sz16 _ HL1.out) ?_
         refine hK _ _ ?_)
      | (refine wpList_val rfl (exec_eq_two m0 m1 25 16 u16a gt16 HL0.out HL1.out (.tmp 60) (.tmp 62) rfl rfl w9) ?_
         rw [Hem.out]))
    go_ret
    exact ⟨by simp, GE.out⟩
end Go.Proofs.Ytjklgmhaebjjaaa.S12
