/-
  The ideal source's decrypt. An act of the law: a nonce.
-/
import Derived.Test.YtjklgmhaebjjaaaGreatMgOidealMain30
import Derived.Test.YtjklgmhaebjjaaaGreatMgOidealMain28
import Derived.Test.YtjklgmhaebjjaaaGreatMgOidealMain15
import Derived.Test.YtjklgmhaebjjaaaGreatMgOidealMain16
namespace Go.Proofs.YtjklgmhaebjjaaaGreat.S12
open S11
open Go.RowKit
set_option linter.unusedVariables false
set_option linter.unusedSimpArgs false

set_option maxHeartbeats 4000000 in
set_option maxRecDepth 20000 in
theorem ununit_src {w : World} {H : Nat} {F : Nat → Prop} {st : St} {i : Nat} {A1 A2 : Option Addr} {n1 c1 n2 c2 : Nat} {key b : List UInt8} {number : Int} (hS : Src w H F st) (hN : Nm st i) (hi : i ≤ 200) (h1 : Bes w F A1 n1 c1 key) (h2 : n1 = 64) (h3 : 0 ≤ number) (h4 : Bes w F A2 n2 c2 b) (h5 : 16 ≤ n2) (h6 : n2 ≤ 100) (h7 : n2 % 16 = 0) :
    Calls Tryz.prog 65 #[.pointer (some ⟨H, 0, none⟩), .slice A1 n1 c1, .int .i64 number, .slice A2 n2 c2] w (PairS w H F (idealM.ununit st key number b).1 (idealM.ununit st key number b).2 n2) := by
  obtain ⟨Z, FZ, hZ1, hH, hZ, hnF, hF⟩ := hS
  have HZ1 := Lib.hid hZ1
  clear hZ1
  have HH := Lib.hid hH
  have HZ := Lib.hid hZ
  have HnF := Lib.hid hnF
  have HF := Lib.hid hF
  have HFew := Lib.hid (few_nm hN hi)
  have HK := Lib.hid h1.1
  have HKn := Lib.hid h1.2.1
  have HB := Lib.hid h4.1
  have HBn := Lib.hid h4.2.1
  have HBc := Lib.hid h4.2.2.1
  have HBo := Lib.hid h4.2.2.2
  have HOk := Lib.hid (show okU n1 number n2 from ⟨h2, h3, h5, by omega, h7⟩)
  have HD := Lib.hid (show (idealM.ununit st key number b).1.length = n2 by rw [show (idealM.ununit st key number b).1.length = b.length from pr_len hN.2.2.2 _ _ _ (by have := hN.2.1.2.1; have := hN.1; omega)]; exact h4.2.1)
  have HE := Lib.hid (show prOp st (unitQ key number) b false = idealM.ununit st key number b from rfl)
  have HQ := Lib.hid (show (unitQ key number).length ≤ 1000 by unfold unitQ; simp [layL_len]; have := h1.2.1; omega)
  have HU := Lib.hid (fun v (hv : Grown w v) => uname_any A1 n1 c1 key number v (HK.out.grow hv) HKn.out (by omega))
  have n64 : n1 ≤ 64 := by omega
  clear hH hZ hnF hF hN h1 h4 h2 h7
  obtain ⟨R, hR⟩ : ∃ R, R = idealM.ununit st key number b := ⟨_, rfl⟩
  rw [← hR] at HD HE ⊢
  clear hR
  have s0 := Lib.hid (show w.drew.cell? ⟨H, 0, none⟩ = some (.pointer (some ⟨Z, 0, none⟩)) from cell_of_row w H 0 _ _ (0, 0) HH.out)
  go_enter Tryz.func65, Tryz.ntmps65
  go_wp2_with fail
  refine (isu_yes A1 A2 n1 c1 n2 c2 number HOk.out w).mono ?_
  rintro e w' ⟨rfl, rfl⟩
  go_wp2_with fail
  refine restS_begin (fun v : World => v.cell? ⟨H, 0, none⟩ = some (.pointer (some ⟨Z, 0, none⟩))) (by kernel_rfl) ?_
  have G0 := Lib.hid (show Grown w w.drew from (Below.refl _ w).drew)
  generalize w.drew = w0 at G0 s0 ⊢
  refine restS_take (i := 0) s0.out rfl (by kernel_rfl) (by kernel_rfl) (by kernel_rfl) (by rfl) (fun v hv => by obtain v1 := hv; go_simp; try with_reducible rfl) ?_
  try simp only [Act.put, List.setIfInBounds_toArray, List.set_cons_zero, List.set_cons_succ]
  refine restS_take (i := 1) s0.out rfl (by kernel_rfl) (by kernel_rfl) (by kernel_rfl) (by rfl) (fun v hv => by obtain v1 := hv; go_simp; try with_reducible rfl) ?_
  try simp only [Act.put, List.setIfInBounds_toArray, List.set_cons_zero, List.set_cons_succ]
  refine restS_take (i := 2) s0.out rfl (by kernel_rfl) (by kernel_rfl) (by kernel_rfl) (by rfl) (fun v hv => by obtain v1 := hv; go_simp; try with_reducible rfl) ?_
  try simp only [Act.put, List.setIfInBounds_toArray, List.set_cons_zero, List.set_cons_succ]
  refine restS_take (i := 3) s0.out rfl (by kernel_rfl) (by kernel_rfl) (by kernel_rfl) (by rfl) (fun v hv => by obtain v1 := hv; go_simp; try with_reducible rfl) ?_
  try simp only [Act.put, List.setIfInBounds_toArray, List.set_cons_zero, List.set_cons_succ]
  refine restS_take (i := 4) s0.out rfl (by kernel_rfl) (by kernel_rfl) (by kernel_rfl) (by rfl) (fun v hv => by obtain v1 := hv; go_simp; try with_reducible rfl) ?_
  try simp only [Act.put, List.setIfInBounds_toArray, List.set_cons_zero, List.set_cons_succ]
  refine restS_take (i := 5) s0.out rfl (by kernel_rfl) (by kernel_rfl) (by kernel_rfl) (by rfl) (fun v hv => by obtain v1 := hv; go_simp; try with_reducible rfl) ?_
  try simp only [Act.put, List.setIfInBounds_toArray, List.set_cons_zero, List.set_cons_succ]
  refine restS_take (i := 7) s0.out rfl (by kernel_rfl) (by kernel_rfl) (by kernel_rfl) (by rfl) (fun v hv => by obtain v1 := hv; go_simp; try with_reducible rfl) ?_
  try simp only [Act.put, List.setIfInBounds_toArray, List.set_cons_zero, List.set_cons_succ]
  refine restS_lone (i := 6) rfl (by kernel_rfl) (by rfl) (fun K hK => ?_)
  go_simp
  refine (HU.out w0 G0.out).mono ?_
  rintro e w1 ⟨rfl, hg1⟩
  have G1 := Lib.hid (Grown.trans G0.out hg1)
  have S1 := Lib.hid (show w1.cell? ⟨H, 0, none⟩ = some (.pointer (some ⟨Z, 0, none⟩)) from cell_of_row w1 H 0 _ _ (0, 0) ((G1.out.block H (lt_of_heap HH.out)).trans HH.out))
  clear hg1 s0
  refine hK.out _ _ S1.out ?_
  clear hK K
  try simp only [Act.put, List.setIfInBounds_toArray, List.set_cons_zero, List.set_cons_succ]
  refine restS_lone (i := 8) rfl (by kernel_rfl) (by rfl) (fun K hK => ?_)
  go_simp
  refine (tapeOk.back w1 Z FZ st (unitQ key number) A2 n2 c2 b (tapeOk.grow HZ.out G1.out) HFew.out HQ.out (by omega) HBn.out HBc.out (HB.out.grow G1.out) (fun x hx hb hf => HBo.out x hx hb ((HF.out _).2 (.inr hf)))).mono ?_
  intro e w2 hO
  rw [HE.out] at hO
  obtain ⟨A3, n3, c3, F', rfl, hl3, hc3, hr3, hoff, hL2, hF2, hC2⟩ := hO
  obtain rfl : n2 = n3 := by rw [← hl3]; exact HD.out.symm
  have S2 := Lib.hid (show w2.cell? ⟨H, 0, none⟩ = some (.pointer (some ⟨Z, 0, none⟩)) from (World.cell?_of_block (a := ⟨H, 0, none⟩) (hC2.block H (Nat.lt_of_lt_of_le (lt_of_heap HH.out) G1.out.size) HnF.out)).trans S1.out)
  have HO := Lib.hid (And.intro hl3 (And.intro hc3 (And.intro hr3 (And.intro hoff (And.intro hL2 (And.intro hF2 hC2))))))
  clear hl3 hc3 hr3 hoff hL2 hF2 hC2 S1
  refine hK.out _ _ S2.out ?_
  clear hK K
  try simp only [Act.put, List.setIfInBounds_toArray, List.set_cons_zero, List.set_cons_succ]
  refine restS_take (i := 9) S2.out rfl (by kernel_rfl) (by kernel_rfl) (by kernel_rfl) (by rfl) (fun v hv => by obtain v1 := hv; go_simp; try with_reducible rfl) ?_
  try simp only [Act.put, List.setIfInBounds_toArray, List.set_cons_zero, List.set_cons_succ]
  refine restS_take (i := 10) S2.out rfl (by kernel_rfl) (by kernel_rfl) (by kernel_rfl) (by rfl) (fun v hv => by obtain v1 := hv; go_simp; try with_reducible rfl) ?_
  try simp only [Act.put, List.setIfInBounds_toArray, List.set_cons_zero, List.set_cons_succ]
  refine restS_done (by kernel_rfl) ?_
  go_wp2_with fail
  go_ret2
  obtain ⟨hl3, hc3, hr3, hoff, hL2, hF2, hC2⟩ := HO.out
  have hne : R.1 ≠ [] := by intro e0; rw [e0] at hl3; simp at hl3; omega
  have hlt : H < w.heap.size := lt_of_heap HH.out
  have hs1 := G1.out.size
  refine ⟨A3, c3, rfl, hc3, hl3, hr3, fun x hx => Nat.le_trans hs1 (hoff x hx hne).1, fun k => k = H ∨ F' k, ⟨Z, F', HZ1.out, ?_, hL2, ?_, fun k => Iff.rfl⟩, ?_, ?_, ?_⟩
  · rw [hC2.block H (by omega) HnF.out, G1.out.block H hlt]
    exact HH.out
  · intro h
    rcases hF2 H h with h | h
    · exact HnF.out h
    · omega
  · rintro k (rfl | h)
    · exact .inl ((HF.out _).2 (.inl rfl))
    · rcases hF2 k h with h | h
      · exact .inl ((HF.out _).2 (.inr h))
      · exact .inr (by omega)
  · exact Ch.then (Ch.grown G1.out) hC2 (fun k _ h => (HF.out k).2 (.inr h))
  · intro x hx _ hf
    have := hoff x hx hne
    rcases hf with e | hf
    · omega
    · exact this.2 hf
set_option maxHeartbeats 4000000 in
theorem ununitNo_src {w : World} {H : Nat} {A1 A2 : Option Addr} {n1 c1 n2 c2 : Nat} {number : Int} (h : ¬ okU n1 number n2) :
    Calls Tryz.prog 65 #[.pointer (some ⟨H, 0, none⟩), .slice A1 n1 c1, .int .i64 number, .slice A2 n2 c2] w fun e w' => e = .returned (.tuple #[.slice none 0 0, .int .i64 2]) ∧ w' = w := by
  go_enter Tryz.func65, Tryz.ntmps65
  go_wp2_with fail
  refine (isu_no A1 A2 n1 c1 n2 c2 number h w).mono ?_
  rintro e w' ⟨rfl, rfl⟩
  go_wp2
  go_ret2
  exact ⟨rfl, rfl⟩
end Go.Proofs.YtjklgmhaebjjaaaGreat.S12
namespace Go.Proofs.YtjklgmhaebjjaaaGreat.S12
open S11
open Go.RowKit
set_option linter.unusedVariables false
set_option linter.unusedSimpArgs false

theorem ch_below {F : Nat → Prop} {B : Nat} {w w' : World} (h : Ch F w w') (hF : ∀ k, F k → B ≤ k) (hB : B ≤ w.heap.size) : Below B w w' :=
  ⟨h.os, h.tape, h.output, h.size, fun k hk => h.block k (by omega) (fun hf => by have := hF k hf; omega)⟩
/-- What an act of the law leaves. -/
def Does (M : Mod) (O Q : Ob M) (B P G R : Nat) (w : World) (st' : M.σ) (e : Ending) (w' : World) : Prop :=
  e = .returned (.bool true) ∧ ∃ F F2, Two M O Q B P G R w' F F2 st' st' ∧ Below B w w'

def z16b : List UInt8 := List.replicate 16 0
theorem i16a : (Tryz.prog.info? 62).map (·.size) = some 16 := by kernel_rfl

set_option maxHeartbeats 4000000 in
set_option maxRecDepth 20000 in
theorem does_nonce {M : Mod} {O Q : Ob M} {B P G R : Nat} (KP : ProgOk M B O) (KR : RefOk M B Q) (w : World) (F F2 : Nat → Prop) (st : M.σ) (i : Nat) (h : Two M O Q B P G R w F F2 st st) (hi : M.num st i) (hi2 : i ≤ 190) (kind n number : Int) (k0 : kind ≠ 0) (k1 : kind ≠ 1) (k2 : kind ≠ 2) (k3 : kind ≠ 3) (V3 V4 : Value) (hV3 : V3.oneCell' = true) (hV4 : V4.oneCell' = true) :
    Calls Tryz.prog 8 #[.pointer (some ⟨P, 0, none⟩), .agg #[.int .i64 kind, .int .i64 n, .int .i64 number, V3, V4]] w (Does M O Q B P G R w (M.nonce st).2) := by
  have H0 := Lib.hid h
  have HI := Lib.hid hi
  have HBw := Lib.hid h.bw
  have b0 : (kind == 0) = false := beq_eq_false_iff_ne.2 k0
  have b1 : (kind == 1) = false := beq_eq_false_iff_ne.2 k1
  have b2 : (kind == 2) = false := beq_eq_false_iff_ne.2 k2
  have b3 : (kind == 3) = false := beq_eq_false_iff_ne.2 k3
  have HAl := Lib.hid (h.grow KP.toKept KR.toKept (alloc_below w (.cells #[.int .i64 kind, .int .i64 n, .int .i64 number, V3, V4] 38)))
  have hcP := HAl.out.cP
  have GA := Lib.hid (alloc_below w (.cells #[.int .i64 kind, .int .i64 n, .int .i64 number, V3, V4] 38))
  clear h hi
  go_enter Tryz.func8, Tryz.ntmps8
  go_wp2_with fail
  clear hcP H0
  generalize w.alloc _ = wa at HAl GA ⊢
  refine (KP.nonce wa G F st i HAl.out.p HI.out (by omega)).mono ?_
  rintro e w1 ⟨rfl, F', hO, hF', hC⟩
  have T1 := Lib.hid (HAl.out.stepP KP.toKept KR.toKept hO hF' hC)
  have C1 := Lib.hid (show Below B w w1 from Below.trans (Below.mono GA.out HBw.out) (ch_below hC HAl.out.pB HAl.out.bw))
  clear hO hF' hC HAl GA
  obtain ⟨N, hN⟩ : ∃ N, N = (M.nonce st).1 := ⟨_, rfl⟩
  obtain ⟨st', hst'⟩ : ∃ s, s = (M.nonce st).2 := ⟨_, rfl⟩
  rw [← hst'] at T1
  rw [← hN]
  have HN := Lib.hid hN
  have HS := Lib.hid hst'
  have HNl := Lib.hid (show N.length = 16 by rw [hN]; exact M.len_nonce st i HI.out)
  clear hN hst'
  obtain ⟨Z, hZ⟩ : ∃ Z, Z = (bvs N).toArray := ⟨_, rfl⟩
  rw [← hZ]
  have HZ := Lib.hid hZ
  clear hZ
  have T2 := Lib.hid (T1.out.grow KP.toKept KR.toKept (alloc_below w1 (.cells (bvs z16b).toArray 62)))
  have L2 := Lib.hid (T1.out.locNew KP.toKept KR.toKept (.cells (bvs z16b).toArray 62))
  have B2 := Lib.hid (Ba.new w1 62 z16b)
  have C2 := Lib.hid (show Below B w (w1.alloc (.cells (bvs z16b).toArray 62)) from Below.trans C1.out (Below.mono (alloc_below w1 _) T1.out.bw))
  clear T1 C1
  go_wp2_with (first
    | (refine wpList_store_ba rfl i16a (.tmp 20) (.tmp 282) rfl rfl (M := N) (by rw [← HZ.out]; rfl) (L := z16b) (show Ba _ _ _ z16b from heap_alloc_new _ _) rfl HNl.out ?_
       rw [show #[Value.int .u8 0, Value.int .u8 0, Value.int .u8 0, Value.int .u8 0, Value.int .u8 0, Value.int .u8 0, Value.int .u8 0, Value.int .u8 0, Value.int .u8 0, Value.int .u8 0, Value.int .u8 0, Value.int .u8 0, Value.int .u8 0, Value.int .u8 0, Value.int .u8 0, Value.int .u8 0] = (bvs z16b).toArray from rfl]
       have T3 := Lib.hid (T2.out.row KP.toKept KR.toKept L2.out.1 L2.out.2 (bvs N).toArray)
       have B3 := Lib.hid (B2.out.row N)
       have L3 := Lib.hid (show Loc ((w1.alloc (.cells (bvs z16b).toArray 62)).setRow w1.heap.size (bvs N).toArray) B F' F2 w1.heap.size from L2.out.1.grow (by simp [World.setRow]))
       have C3 := Lib.hid (below_setRow C2.out L2.out.1.2.2.2 (bvs N).toArray)
       clear T2 L2 B2 C2
       obtain ⟨g, hg⟩ : ∃ g, g = w1.heap.size := ⟨_, rfl⟩
       rw [← hg] at T3 B3 L3 C3 ⊢
       generalize (w1.alloc _).setRow _ _ = w3 at T3 B3 L3 C3 ⊢
       clear hg))
  have hcR := T3.out.cR
  obtain ⟨SN, hSN⟩ : ∃ S : ByteArray, S = ⟨N.toArray⟩ := ⟨_, rfl⟩
  have HSN := Lib.hid hSN
  clear hSN
  have HX := Lib.hid (show ∀ v, Ba v g 62 N → (convert 22 9 (.slice (some ⟨g, 0, none⟩) 16 16)).run Tryz.prog v = .ok (.string SN) v from fun v hv => by
    have := conv hv.rd 16
    rw [HNl.out] at this
    rw [HSN.out]; exact this)
  have hsl := fun V : World => cut16 V g
  try simp only [Act.put, List.setIfInBounds_toArray, List.set_cons_zero, List.set_cons_succ]
  refine restS_begin (fun v : World => v.cell? ⟨P, 1, none⟩ = some (.pointer (some ⟨R, 0, none⟩)) ∧ (convert 22 9 (.slice (some ⟨g, 0, none⟩) 16 16)).run Tryz.prog v = .ok (.string SN) v) (by kernel_rfl) ?_
  have T4 := Lib.hid (T3.out.grow KP.toKept KR.toKept (show Grown w3 w3.drew from (Below.refl _ w3).drew))
  have B4 := Lib.hid (show Ba w3.drew g 62 N from B3.out)
  have L4 := Lib.hid (show Loc w3.drew B F' F2 g from L3.out)
  have C4 := Lib.hid (show Below B w w3.drew from C3.out.drew)
  clear T3 B3 L3 C3 hcR
  generalize w3.drew = w4 at T4 B4 L4 C4 ⊢
  have S4 := Lib.hid (show (w4.cell? ⟨P, 1, none⟩ = some (.pointer (some ⟨R, 0, none⟩)) ∧ (convert 22 9 (.slice (some ⟨g, 0, none⟩) 16 16)).run Tryz.prog w4 = .ok (.string SN) w4) from ⟨T4.out.cR, HX.out w4 B4.out⟩)
  refine restS_take (i := 0) S4.out rfl (by kernel_rfl) (by kernel_rfl) (by kernel_rfl) (by rfl) (fun v hv => by obtain ⟨v1, v2⟩ := hv; go_simp; try with_reducible rfl) ?_
  try simp only [Act.put, List.setIfInBounds_toArray, List.set_cons_zero, List.set_cons_succ]
  refine restS_take (i := 1) S4.out rfl (by kernel_rfl) (by kernel_rfl) (by kernel_rfl) (by rfl) (fun v hv => by obtain ⟨v1, v2⟩ := hv; go_simp; try with_reducible rfl) ?_
  try simp only [Act.put, List.setIfInBounds_toArray, List.set_cons_zero, List.set_cons_succ]
  refine restS_take (i := 2) S4.out rfl (by kernel_rfl) (by kernel_rfl) (by kernel_rfl) (by rfl) (fun v hv => by obtain ⟨v1, v2⟩ := hv; go_simp; try with_reducible rfl) ?_
  try simp only [Act.put, List.setIfInBounds_toArray, List.set_cons_zero, List.set_cons_succ]
  refine restS_take (i := 3) S4.out rfl (by kernel_rfl) (by kernel_rfl) (by kernel_rfl) (by rfl) (fun v hv => by obtain ⟨v1, v2⟩ := hv; go_simp; try with_reducible rfl) ?_
  try simp only [Act.put, List.setIfInBounds_toArray, List.set_cons_zero, List.set_cons_succ]
  refine restS_take (i := 4) S4.out rfl (by kernel_rfl) (by kernel_rfl) (by kernel_rfl) (by rfl) (fun v hv => by obtain ⟨v1, v2⟩ := hv; go_simp; try with_reducible rfl) ?_
  try simp only [Act.put, List.setIfInBounds_toArray, List.set_cons_zero, List.set_cons_succ]
  refine restS_take (i := 5) S4.out rfl (by kernel_rfl) (by kernel_rfl) (by kernel_rfl) (by rfl) (fun v hv => by obtain ⟨v1, v2⟩ := hv; go_simp; try with_reducible rfl) ?_
  try simp only [Act.put, List.setIfInBounds_toArray, List.set_cons_zero, List.set_cons_succ]
  clear hsl
  refine restS_lone (i := 6) rfl (by kernel_rfl) (by rfl) (fun K hK => ?_)
  go_simp
  refine (KR.nonce w4 R F2 st i T4.out.r HI.out (by omega)).mono ?_
  rintro e w5 ⟨rfl, F5, hO, hF', hC⟩
  have T5 := Lib.hid (T4.out.stepR KP.toKept KR.toKept hO hF' hC)
  have C5 := Lib.hid (Below.trans C4.out (ch_below hC T4.out.rB T4.out.bw))
  have S5 := Lib.hid (show (w5.cell? ⟨P, 1, none⟩ = some (.pointer (some ⟨R, 0, none⟩)) ∧ (convert 22 9 (.slice (some ⟨g, 0, none⟩) 16 16)).run Tryz.prog w5 = .ok (.string SN) w5) from ⟨T5.out.cR, HX.out w5 (B4.out.ch hC L4.out.2.2.1)⟩)
  clear hO hF' hC
  rw [← HN.out, ← HSN.out]
  refine hK.out _ _ S5.out ?_
  clear hK K
  try simp only [Act.put, List.setIfInBounds_toArray, List.set_cons_zero, List.set_cons_succ]
  refine restS_take (i := 7) S5.out rfl (by kernel_rfl) (by kernel_rfl) (by kernel_rfl) (by rfl) (fun v hv => by obtain ⟨v1, v2⟩ := hv; go_simp; try with_reducible rfl) ?_
  try simp only [Act.put, List.setIfInBounds_toArray, List.set_cons_zero, List.set_cons_succ]
  refine restS_take (i := 8) S5.out rfl (by kernel_rfl) (by kernel_rfl) (by kernel_rfl) (by rfl) (fun v hv => by obtain ⟨v1, v2⟩ := hv; go_simp; try with_reducible rfl) ?_
  try simp only [Act.put, List.setIfInBounds_toArray, List.set_cons_zero, List.set_cons_succ]
  refine restS_done (by kernel_rfl) ?_
  go_wp2_with fail
  go_ret
  exact ⟨by simp, F', F5, by have := T5.out; rw [← HS.out] at this ⊢; exact this, C5.out⟩
end Go.Proofs.YtjklgmhaebjjaaaGreat.S12
