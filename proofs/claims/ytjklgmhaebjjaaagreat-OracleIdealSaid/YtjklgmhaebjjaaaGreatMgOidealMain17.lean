/-
  The reference's blocks, units and nonces, in an ideal oracle. The program's query: the key's length, the key, the pieces.
-/
import Derived.Test.YtjklgmhaebjjaaaGreatMgOidealMain16
import Derived.Test.YtjklgmhaebjjaaaGreatMgOidealMain10
import Derived.Lib.Hide
namespace Go.Proofs.YtjklgmhaebjjaaaGreat.S12
open S11
open Go.RowKit
set_option linter.unusedVariables false
set_option linter.unusedSimpArgs false

def blockQ (key : List UInt8) : List UInt8 := [98, 108, 111, 99, 107] ++ key
def unitQ (key : List UInt8) (number : Int) : List UInt8 := [117, 110, 105, 116] ++ key ++ layL number 8
theorem cut16 (W : World) (g : Nat) : (Instr.sliceAt 62 (.pointer (some ⟨g, 0, none⟩)) none none none).run Tryz.prog W = .ok (.slice (some ⟨g, 0, none⟩) 16 16) W := by
  have i5 : (Tryz.prog.info? 5).map (·.size) = some 1 := by kernel_rfl
  have u16 : Tryz.prog.underlying 62 = some (.array 16 5) := by kernel_rfl
  go_simp
  done

set_option maxHeartbeats 4000000 in
theorem orEnc_any (B base R : Nat) (Af Ap : Option Addr) (st : St) (A1 : Option Addr) (n1 c1 : Nat) (key : List UInt8) (b : List UInt8) (w : World) (hB : B ≤ base) (hbw : base ≤ w.heap.size) (hps : st.ps.length ≤ 255) (hcnt : st.cnt ≤ 1000) (h : Ro w B base R Af Ap st)
    (h1 : Rd w w.heap.size A1 key) (hn1 : key.length = n1) (hl1 : n1 ≤ 100000) (ho1 : Off (RF R Af Ap) A1 key) (hb : b.length = 16) :
    Calls Tryz.prog 20 #[.pointer (some ⟨R, 0, none⟩), .slice A1 n1 c1, .agg (bvs b).toArray] w (PairOk w B base R Af Ap st (blockQ key) b true) := by
  have H0 := Lib.hid h
  have HI := ro_ideal h
  have HRlt := Lib.hid (show R < w.heap.size from (h.lt R (.inl rfl)).2)
  have H1 := Lib.hid h1
  have HO1 := Lib.hid ho1
  have HN1 := Lib.hid hn1
  have HB16 := Lib.hid hb
  obtain ⟨Z, hZ⟩ : ∃ Z, Z = (bvs b).toArray := ⟨_, rfl⟩
  have HZ := Lib.hid hZ
  rw [← hZ]
  obtain ⟨T1, hT1⟩ : ∃ T : ByteArray, T = ⟨key.toArray⟩ := ⟨_, rfl⟩
  have HT1 := Lib.hid hT1
  have hal : (w.alloc (.cells Z 62)).cell? ⟨R, 0, none⟩ = some (.bool true) := (World.cell?_of_block (a := ⟨R, 0, none⟩) (Below.heap_alloc w (.cells Z 62) R HRlt.out)).trans HI
  have GA := Lib.hid (alloc_below w (.cells Z 62))
  have RA := Lib.hid (show Rd (w.alloc (.cells Z 62)) (w.alloc (.cells Z 62)).heap.size (some ⟨w.heap.size, 0, none⟩) b from .inr ⟨w.heap.size, 0, rfl, by simp, fun j hj => by
    have := cell_of_row _ w.heap.size j _ 62 (0, 0) (heap_alloc_new w (.cells Z 62))
    rw [Nat.zero_add, this, hZ]
    simp [bvs, hj]⟩)
  clear h h1 ho1 hn1 hT1 hZ hb HI
  go_enter Tryz.func20, Tryz.ntmps20
  go_wp2_with fail
  clear hal
  obtain ⟨g, hg⟩ : ∃ g, g = w.heap.size := ⟨_, rfl⟩
  have Hg := Lib.hid hg
  rw [← hg] at RA ⊢
  clear hg
  generalize w.alloc _ = wa at GA RA ⊢
  obtain ⟨T2, hT2⟩ : ∃ T : ByteArray, T = ⟨b.toArray⟩ := ⟨_, rfl⟩
  have HT2 := Lib.hid hT2
  clear hT2
  have HOg := Lib.hid (show Off (RF R Af Ap) (some ⟨g, 0, none⟩) b from fun x hx _ hf => by
    simp only [Option.some.injEq] at hx
    subst hx
    have := (H0.out.lt _ hf).2
    rw [← Hg.out] at this
    simp at this)
  have HS := Lib.hid (show ∀ v, Ch (RF R Af Ap) wa v → (convert 22 9 (.slice A1 n1 c1)).run Tryz.prog v = .ok (.string T1) v ∧ (convert 22 9 (.slice (some ⟨g, 0, none⟩) 16 16)).run Tryz.prog v = .ok (.string T2) v from fun v hv => by
    have e1 := conv (rd_ch (H1.out.grow GA.out) HO1.out hv) c1
    have e2 := conv (rd_ch RA.out HOg.out hv) 16
    rw [HN1.out] at e1
    rw [HB16.out] at e2
    exact ⟨by rw [HT1.out]; exact e1, by rw [HT2.out]; exact e2⟩)
  obtain ⟨M1, hM1⟩ : ∃ M : ByteArray, M = ⟨(blockQ key).toArray⟩ := ⟨_, rfl⟩
  have ha1 : ∀ V : World, (Op.stringOp .add ⟨#[98, 108, 111, 99, 107]⟩ T1).run Tryz.prog V = .ok (.string M1) V := fun V => by rw [HT1.out, hM1]; exact addT [98, 108, 111, 99, 107] _ (by rw [HN1.out]; simp; omega) V
  have HM1 := Lib.hid hM1
  have hsl := fun V : World => cut16 V g
  clear hM1
  try simp only [Act.put, List.setIfInBounds_toArray, List.set_cons_zero, List.set_cons_succ]
  refine restS_begin (fun v : World => (convert 22 9 (.slice A1 n1 c1)).run Tryz.prog v = .ok (.string T1) v ∧ (convert 22 9 (.slice (some ⟨g, 0, none⟩) 16 16)).run Tryz.prog v = .ok (.string T2) v) (by kernel_rfl) ?_
  have G0 := Lib.hid (show Grown w wa.drew from Grown.trans GA.out (Below.refl _ wa).drew)
  have C0 := Lib.hid (show Ch (RF R Af Ap) wa wa.drew from Ch.grown (Below.refl _ wa).drew)
  generalize wa.drew = w0 at G0 C0 ⊢
  have S0 := Lib.hid (HS.out w0 C0.out)
  refine restS_take (i := 0) S0.out rfl (by kernel_rfl) (by kernel_rfl) (by kernel_rfl) (by rfl) (fun v hv => by obtain ⟨v1, v2⟩ := hv; go_simp; try with_reducible rfl) ?_
  try simp only [Act.put, List.setIfInBounds_toArray, List.set_cons_zero, List.set_cons_succ]
  refine restS_take (i := 1) S0.out rfl (by kernel_rfl) (by kernel_rfl) (by kernel_rfl) (by rfl) (fun v hv => by obtain ⟨v1, v2⟩ := hv; go_simp; try with_reducible rfl) ?_
  try simp only [Act.put, List.setIfInBounds_toArray, List.set_cons_zero, List.set_cons_succ]
  refine restS_take (i := 2) S0.out rfl (by kernel_rfl) (by kernel_rfl) (by kernel_rfl) (by rfl) (fun v hv => by obtain ⟨v1, v2⟩ := hv; go_simp; try with_reducible rfl) ?_
  try simp only [Act.put, List.setIfInBounds_toArray, List.set_cons_zero, List.set_cons_succ]
  refine restS_take (i := 3) S0.out rfl (by kernel_rfl) (by kernel_rfl) (by kernel_rfl) (by rfl) (fun v hv => by obtain ⟨v1, v2⟩ := hv; go_simp; try with_reducible rfl) ?_
  try simp only [Act.put, List.setIfInBounds_toArray, List.set_cons_zero, List.set_cons_succ]
  refine restS_take (i := 4) S0.out rfl (by kernel_rfl) (by kernel_rfl) (by kernel_rfl) (by rfl) (fun v hv => by obtain ⟨v1, v2⟩ := hv; go_simp; try with_reducible rfl) ?_
  try simp only [Act.put, List.setIfInBounds_toArray, List.set_cons_zero, List.set_cons_succ]
  refine restS_take (i := 5) S0.out rfl (by kernel_rfl) (by kernel_rfl) (by kernel_rfl) (by rfl) (fun v hv => by obtain ⟨v1, v2⟩ := hv; go_simp; try with_reducible rfl) ?_
  try simp only [Act.put, List.setIfInBounds_toArray, List.set_cons_zero, List.set_cons_succ]
  refine restS_take (i := 6) S0.out rfl (by kernel_rfl) (by kernel_rfl) (by kernel_rfl) (by rfl) (fun v hv => by obtain ⟨v1, v2⟩ := hv; go_simp; try with_reducible rfl) ?_
  try simp only [Act.put, List.setIfInBounds_toArray, List.set_cons_zero, List.set_cons_succ]
  refine restS_take (i := 7) S0.out rfl (by kernel_rfl) (by kernel_rfl) (by kernel_rfl) (by rfl) (fun v hv => by obtain ⟨v1, v2⟩ := hv; go_simp; try with_reducible rfl) ?_
  try simp only [Act.put, List.setIfInBounds_toArray, List.set_cons_zero, List.set_cons_succ]
  clear ha1 hsl
  refine restS_lone (i := 8) rfl (by kernel_rfl) (by rfl) (fun K hK => ?_)
  go_simp
  rw [HM1.out, HT2.out]
  refine (orPair_any B base R Af Ap st (blockQ key) b true w0 hB hps (by rw [HB16.out]; omega) hcnt (H0.out.keep (fun k hk => G0.out.block k (by omega)) (fun k hk => G0.out.block k (H0.out.lt k hk).2))).mono ?_
  rintro e w2 ⟨rfl, Ap', hz, hch, hm⟩
  have S2 := Lib.hid (HS.out w2 (Ch.trans C0.out hch))
  refine hK.out _ _ S2.out ?_
  clear hK K
  try simp only [Act.put, List.setIfInBounds_toArray, List.set_cons_zero, List.set_cons_succ]
  refine restS_take (i := 9) S2.out rfl (by kernel_rfl) (by kernel_rfl) (by kernel_rfl) (by rfl) (fun v hv => by obtain ⟨v1, v2⟩ := hv; go_simp; try with_reducible rfl) ?_
  try simp only [Act.put, List.setIfInBounds_toArray, List.set_cons_zero, List.set_cons_succ]
  refine restS_done (by kernel_rfl) ?_
  go_wp2_with fail
  go_ret
  refine ⟨rfl, Ap', hz, Ch.trans (Ch.grown G0.out) hch, ?_⟩
  rcases hm with e | ⟨x, hx, hx2⟩
  · exact .inl e
  · exact .inr ⟨x, hx, Nat.le_trans G0.out.size hx2⟩

set_option maxHeartbeats 4000000 in
theorem orUnit_any (B base R : Nat) (Af Ap : Option Addr) (st : St) (A1 : Option Addr) (n1 c1 : Nat) (key : List UInt8) (number : Int) (A2 : Option Addr) (n2 c2 : Nat) (b : List UInt8) (w : World) (hB : B ≤ base) (hbw : base ≤ w.heap.size) (hps : st.ps.length ≤ 255) (hcnt : st.cnt ≤ 1000) (h : Ro w B base R Af Ap st)
    (h1 : Rd w w.heap.size A1 key) (hn1 : key.length = n1) (hl1 : n1 ≤ 100000) (ho1 : Off (RF R Af Ap) A1 key) (h2 : Rd w w.heap.size A2 b) (hn2 : b.length = n2) (hl2 : n2 ≤ 1000) (ho2 : Off (RF R Af Ap) A2 b) :
    Calls Tryz.prog 24 #[.pointer (some ⟨R, 0, none⟩), .slice A1 n1 c1, .int .i64 number, .slice A2 n2 c2] w (PairOk w B base R Af Ap st (unitQ key number) b true) := by
  have H0 := Lib.hid h
  have HI := ro_ideal h
  have H1 := Lib.hid h1
  have H2 := Lib.hid h2
  have HO1 := Lib.hid ho1
  have HO2 := Lib.hid ho2
  have HN1 := Lib.hid hn1
  have HN2 := Lib.hid hn2
  obtain ⟨T1, hT1⟩ : ∃ T : ByteArray, T = ⟨key.toArray⟩ := ⟨_, rfl⟩
  obtain ⟨T2, hT2⟩ : ∃ T : ByteArray, T = ⟨b.toArray⟩ := ⟨_, rfl⟩
  have HT1 := Lib.hid hT1
  have HT2 := Lib.hid hT2
  have HS := Lib.hid (show ∀ v, Ch (RF R Af Ap) w v → (convert 22 9 (.slice A1 n1 c1)).run Tryz.prog v = .ok (.string T1) v ∧ (convert 22 9 (.slice A2 n2 c2)).run Tryz.prog v = .ok (.string T2) v from fun v hv => by
    have e1 := conv (rd_ch H1.out HO1.out hv) c1
    have e2 := conv (rd_ch H2.out HO2.out hv) c2
    rw [HN1.out] at e1
    rw [HN2.out] at e2
    exact ⟨by rw [HT1.out]; exact e1, by rw [HT2.out]; exact e2⟩)
  obtain ⟨M1, hM1⟩ : ∃ M : ByteArray, M = ⟨([117, 110, 105, 116] ++ key).toArray⟩ := ⟨_, rfl⟩
  have ha1 : ∀ V : World, (Op.stringOp .add ⟨#[117, 110, 105, 116]⟩ T1).run Tryz.prog V = .ok (.string M1) V := fun V => by rw [HT1.out, hM1]; exact addT [117, 110, 105, 116] _ (by rw [HN1.out]; simp; omega) V
  have HM1 := Lib.hid hM1
  clear h h1 h2 ho1 ho2 hn1 hn2 hT1 hT2 hM1
  go_enter Tryz.func24, Tryz.ntmps24
  go_wp2_with fail
  clear HI
  try simp only [Act.put, List.setIfInBounds_toArray, List.set_cons_zero, List.set_cons_succ]
  refine restS_begin (fun v : World => (convert 22 9 (.slice A1 n1 c1)).run Tryz.prog v = .ok (.string T1) v ∧ (convert 22 9 (.slice A2 n2 c2)).run Tryz.prog v = .ok (.string T2) v) (by kernel_rfl) ?_
  have G0 := Lib.hid (show Grown w w.drew from (Below.refl _ w).drew)
  generalize w.drew = w0 at G0 ⊢
  have C0 := Lib.hid (show Ch (RF R Af Ap) w w0 from Ch.grown G0.out)
  have S0 := Lib.hid (HS.out w0 C0.out)
  refine restS_take (i := 0) S0.out rfl (by kernel_rfl) (by kernel_rfl) (by kernel_rfl) (by rfl) (fun v hv => by obtain ⟨v1, v2⟩ := hv; go_simp; try with_reducible rfl) ?_
  try simp only [Act.put, List.setIfInBounds_toArray, List.set_cons_zero, List.set_cons_succ]
  refine restS_take (i := 1) S0.out rfl (by kernel_rfl) (by kernel_rfl) (by kernel_rfl) (by rfl) (fun v hv => by obtain ⟨v1, v2⟩ := hv; go_simp; try with_reducible rfl) ?_
  try simp only [Act.put, List.setIfInBounds_toArray, List.set_cons_zero, List.set_cons_succ]
  refine restS_take (i := 2) S0.out rfl (by kernel_rfl) (by kernel_rfl) (by kernel_rfl) (by rfl) (fun v hv => by obtain ⟨v1, v2⟩ := hv; go_simp; try with_reducible rfl) ?_
  try simp only [Act.put, List.setIfInBounds_toArray, List.set_cons_zero, List.set_cons_succ]
  refine restS_take (i := 3) S0.out rfl (by kernel_rfl) (by kernel_rfl) (by kernel_rfl) (by rfl) (fun v hv => by obtain ⟨v1, v2⟩ := hv; go_simp; try with_reducible rfl) ?_
  try simp only [Act.put, List.setIfInBounds_toArray, List.set_cons_zero, List.set_cons_succ]
  refine restS_take (i := 4) S0.out rfl (by kernel_rfl) (by kernel_rfl) (by kernel_rfl) (by rfl) (fun v hv => by obtain ⟨v1, v2⟩ := hv; go_simp; try with_reducible rfl) ?_
  try simp only [Act.put, List.setIfInBounds_toArray, List.set_cons_zero, List.set_cons_succ]
  refine restS_take (i := 5) S0.out rfl (by kernel_rfl) (by kernel_rfl) (by kernel_rfl) (by rfl) (fun v hv => by obtain ⟨v1, v2⟩ := hv; go_simp; try with_reducible rfl) ?_
  try simp only [Act.put, List.setIfInBounds_toArray, List.set_cons_zero, List.set_cons_succ]
  refine restS_take (i := 6) S0.out rfl (by kernel_rfl) (by kernel_rfl) (by kernel_rfl) (by rfl) (fun v hv => by obtain ⟨v1, v2⟩ := hv; go_simp; try with_reducible rfl) ?_
  try simp only [Act.put, List.setIfInBounds_toArray, List.set_cons_zero, List.set_cons_succ]
  refine restS_take (i := 10) S0.out rfl (by kernel_rfl) (by kernel_rfl) (by kernel_rfl) (by rfl) (fun v hv => by obtain ⟨v1, v2⟩ := hv; go_simp; try with_reducible rfl) ?_
  try simp only [Act.put, List.setIfInBounds_toArray, List.set_cons_zero, List.set_cons_succ]
  refine restS_take (i := 11) S0.out rfl (by kernel_rfl) (by kernel_rfl) (by kernel_rfl) (by rfl) (fun v hv => by obtain ⟨v1, v2⟩ := hv; go_simp; try with_reducible rfl) ?_
  try simp only [Act.put, List.setIfInBounds_toArray, List.set_cons_zero, List.set_cons_succ]
  clear ha1
  refine restS_lone (i := 7) rfl (by kernel_rfl) (by rfl) (fun K hK => ?_)
  go_simp
  refine (refLay_any number 8 8 w0 (by omega) (.inr (.inl rfl))).mono ?_
  rintro e w1 ⟨A4, c4, rfl, ho4, hb4⟩
  rw [layL_len]
  have G1 := Lib.hid (show Grown w w1 from Grown.trans G0.out hb4)
  have C1 := Lib.hid (show Ch (RF R Af Ap) w w1 from Ch.grown G1.out)
  have S1 := Lib.hid (HS.out w1 C1.out)
  have hcv := conv ho4.rd c4
  rw [layL_len] at hcv
  obtain ⟨L4, hL4⟩ : ∃ L, L = layL number 8 := ⟨_, rfl⟩
  rw [← hL4] at hcv
  have HL4 := Lib.hid hL4
  have HL4n := Lib.hid (show L4.length = 8 by rw [hL4]; exact layL_len _ _)
  clear hL4 ho4 hb4
  refine hK.out _ _ S1.out ?_
  clear hK K
  try simp only [Act.put, List.setIfInBounds_toArray, List.set_cons_zero, List.set_cons_succ]
  refine restS_lone (i := 8) rfl (by kernel_rfl) (by rfl) (fun K hK => ?_)
  go_simp
  refine hK.out _ _ S1.out ?_
  clear hK K hcv
  try simp only [Act.put, List.setIfInBounds_toArray, List.set_cons_zero, List.set_cons_succ]
  obtain ⟨M2, hM2⟩ : ∃ M : ByteArray, M = ⟨([117, 110, 105, 116] ++ key ++ L4).toArray⟩ := ⟨_, rfl⟩
  have ha2 : ∀ V : World, (Op.stringOp .add M1 ⟨L4.toArray⟩).run Tryz.prog V = .ok (.string M2) V := fun V => by rw [HM1.out, hM2]; exact addT _ _ (by rw [List.length_append, HL4n.out, HN1.out]; simp; omega) V
  have HM2 := Lib.hid (show M2 = ⟨(unitQ key number).toArray⟩ by rw [hM2, HL4.out]; rfl)
  clear hM2
  refine restS_take (i := 9) S1.out rfl (by kernel_rfl) (by kernel_rfl) (by kernel_rfl) (by rfl) (fun v hv => by obtain ⟨v1, v2⟩ := hv; go_simp; try with_reducible rfl) ?_
  try simp only [Act.put, List.setIfInBounds_toArray, List.set_cons_zero, List.set_cons_succ]
  clear ha2
  refine restS_lone (i := 12) rfl (by kernel_rfl) (by rfl) (fun K hK => ?_)
  go_simp
  rw [HM2.out, HT2.out]
  refine (orPair_any B base R Af Ap st (unitQ key number) b true w1 hB hps (by rw [HN2.out]; omega) hcnt (H0.out.keep (fun k hk => G1.out.block k (by omega)) (fun k hk => G1.out.block k (H0.out.lt k hk).2))).mono ?_
  rintro e w2 ⟨rfl, Ap', hz, hch, hm⟩
  have S2 := Lib.hid (HS.out w2 (Ch.trans C1.out hch))
  refine hK.out _ _ S2.out ?_
  clear hK K
  try simp only [Act.put, List.setIfInBounds_toArray, List.set_cons_zero, List.set_cons_succ]
  refine restS_take (i := 13) S2.out rfl (by kernel_rfl) (by kernel_rfl) (by kernel_rfl) (by rfl) (fun v hv => by obtain ⟨v1, v2⟩ := hv; go_simp; try with_reducible rfl) ?_
  try simp only [Act.put, List.setIfInBounds_toArray, List.set_cons_zero, List.set_cons_succ]
  refine restS_done (by kernel_rfl) ?_
  go_wp2_with fail
  go_ret
  refine ⟨rfl, Ap', hz, Ch.trans C1.out hch, ?_⟩
  rcases hm with e | ⟨x, hx, hx2⟩
  · exact .inl e
  · exact .inr ⟨x, hx, Nat.le_trans C1.out.size hx2⟩

set_option maxHeartbeats 4000000 in
theorem orNonce_any (B base R : Nat) (Af Ap : Option Addr) (st : St) (w : World) (hB : B ≤ base) (h : Ro w B base R Af Ap st) :
    Calls Tryz.prog 26 #[.pointer (some ⟨R, 0, none⟩)] w fun e w' => e = .returned (.string ⟨(drOp st 16).1.toArray⟩) ∧ Ro w' B base R Af Ap (drOp st 16).2 ∧ Ch (fun k => k = R) w w' := by
  have HD := Lib.hid (orDraw_any B base R Af Ap st 16 w hB (by omega) h)
  have HI := ro_ideal h
  clear h
  go_enter Tryz.func26, Tryz.ntmps26
  go_wp2_with fail
  refine HD.out.mono ?_
  rintro e w1 ⟨rfl, h1⟩
  have H1 := Lib.hid h1
  clear h1 HI
  go_wp2_with fail
  go_ret
  exact ⟨rfl, H1.out⟩
end Go.Proofs.YtjklgmhaebjjaaaGreat.S12
namespace Go.Proofs.YtjklgmhaebjjaaaGreat.S12
open S11
open Go.RowKit
set_option linter.unusedVariables false
set_option linter.unusedSimpArgs false

theorem flat_take (ls : List (List UInt8)) (i : Nat) (h : i < ls.length) : (ls.take i).flatten ++ ls[i] = (ls.take (i + 1)).flatten := by
  rw [List.take_succ_eq_append_getElem h, List.flatten_append]; simp
theorem flat_le (ls : List (List UInt8)) (i : Nat) : (ls.take i).flatten.length ≤ ls.flatten.length := by
  have h := List.take_append_drop i ls
  have h2 : ls.flatten.length = (ls.take i).flatten.length + (ls.drop i).flatten.length := by
    rw [← List.length_append, ← List.flatten_append, h]
  omega
theorem Bl.at_ {w w' : World} {B b : Nat} {l : List UInt8} {p : Value} (h : Lib.BuilderAt 141 5 B b p (bvs l) w) (hg : Grown w w') : Lib.BuilderAt 141 5 B b p (bvs l) w' := by
  have hlt := h.lt
  obtain ⟨h0, v, h1, h2, h3⟩ := h
  refine ⟨h0, v, (hg.block b hlt).trans h1, ⟨h2.1, ?_⟩, h3⟩
  rcases h2.2 with e | ⟨g, cap, cur, e1, e2, e3, r⟩
  · exact .inl e
  · exact .inr ⟨g, cap, cur, e1, e2, (hg.block g (lt_of_heap e3)).trans e3, r⟩
theorem Bl.grow {w w' : World} {B b : Nat} {l : List UInt8} (h : Bl w B b l) (hg : Grown w w') : Bl w' B b l := by
  rcases h with h | h
  · exact .inl (Bl.at_ h hg)
  · exact .inr (Bl.at_ h hg)
theorem strB (w : World) (B b : Nat) (l : List UInt8) (h : Bl w B b l) (hB : B ≤ w.heap.size) :
    Calls Tryz.prog 84 #[.pointer (some ⟨b, 0, none⟩)] w fun e w' => e = .returned (.string ⟨l.toArray⟩) ∧ Below B w w' := Sh.Tryz.Builder_String_any B b l w h hB
set_option maxHeartbeats 4000000 in
theorem query_any {w : World} {A1 A2 : Option Addr} {n1 c1 n2 c2 : Nat} {key : List UInt8} {ls : List (List UInt8)} (hk : Rd w w.heap.size A1 key) (hkn : key.length = n1) (hk2 : n1 ≤ 2000) (hl : RdL w w.heap.size A2 ls) (hln : ls.length = n2) (hl2 : n2 ≤ 10) (hfl : ls.flatten.length ≤ 2500) :
    Calls Tryz.prog 79 #[.slice A1 n1 c1, .slice A2 n2 c2] w fun e w' => e = .returned (.string ⟨(sealQ key ls.flatten).toArray⟩) ∧ Grown w w' := by
  have HK := Lib.hid hk
  have HKN := Lib.hid hkn
  have HL := Lib.hid hl
  have HLN := Lib.hid hln
  have HFL := Lib.hid hfl
  have HK2 := Lib.hid hk2
  clear hk hkn hl hln hfl hk2
  go_enter Tryz.func79, Tryz.ntmps79
  go_wp2_with fail
  have FB := Lib.hid (show Bl (w.alloc (.cells #[.pointer none, .slice none 0 0] 141)) w.heap.size w.heap.size [] from Lib.fresh_isBuilder _ _ w)
  have G0 := Lib.hid (alloc_below w (.cells #[.pointer none, .slice none 0 0] 141))
  have S0 := Lib.hid (show (w.alloc (.cells #[.pointer none, .slice none 0 0] 141)).heap.size = w.heap.size + 1 by simp)
  generalize w.alloc _ = w0 at FB G0 S0 ⊢
  obtain ⟨b, hb⟩ : ∃ b, b = w.heap.size := ⟨_, rfl⟩
  have HBe := Lib.hid hb
  rw [← hb] at FB S0 ⊢
  clear hb
  refine (lay_any (n1 : Int) 4 4 w0 (by omega) (.inr (.inl rfl))).mono ?_
  rintro e w1 ⟨A3, c3, rfl, ho, hb1⟩
  rw [layL_len]
  have FB1 := Lib.hid (FB.out.grow hb1)
  have G1 := Lib.hid (show Below w.heap.size w w1 from Below.trans G0.out (Below.mono hb1 (by have := S0.out; have := HBe.out; omega)))
  have RO := Lib.hid (show Rd w1 w1.heap.size A3 (layL (n1 : Int) 4) from ho.rd)
  have AO := Lib.hid (show ∀ x, A3 = some x → layL (n1 : Int) 4 ≠ [] → x.block ≠ b from fun x hx _ => by have := (ho.lt x hx).1; have := S0.out; omega)
  have SB1 := Lib.hid (show b ≤ w1.heap.size by have := hb1.size; have := S0.out; omega)
  clear ho hb1 FB G0
  go_wp2_with fail
  refine (write_any FB1.out RO.out (layL_len _ _) AO.out (by simp) SB1.out).mono ?_
  rintro e w2 ⟨rfl, hb2, hbel⟩
  have FB2 := Lib.hid hb2
  have G2 := Lib.hid (show Below w.heap.size w w2 from Below.trans G1.out (Below.mono hbel (by have := HBe.out; omega)))
  have SB2 := Lib.hid (show b ≤ w2.heap.size from Nat.le_trans SB1.out hbel.size)
  clear hb2 hbel FB1 G1 RO AO SB1
  go_wp2_with fail
  have off : ∀ (A : Option Addr) (m : List UInt8), Rd w w.heap.size A m → ∀ x, A = some x → m ≠ [] → x.block ≠ b := fun A m hr x hx hm e => by
    rcases hr with h1 | ⟨g, off, h2, h3, _⟩
    · exact hm h1
    · rw [h2] at hx
      simp only [Option.some.injEq] at hx
      subst hx
      have := HBe.out
      simp only at e
      omega
  have OFF := Lib.hid off
  clear off
  refine (write_any FB2.out ((HK.out.below G2.out).more G2.out.size) HKN.out (OFF.out _ _ HK.out) (by rw [List.nil_append, layL_len]; have := HK2.out; omega) SB2.out).mono ?_
  rintro e w3 ⟨rfl, hb3, hbel⟩
  have FB3 := Lib.hid (show Bl w3 b b (layL (n1 : Int) 4 ++ key ++ (ls.take 0).flatten) by rw [List.take_zero, List.flatten_nil, List.append_nil]; exact hb3)
  have G3 := Lib.hid (show Below w.heap.size w w3 from Below.trans G2.out (Below.mono hbel (by have := HBe.out; omega)))
  have SB3 := Lib.hid (show b ≤ w3.heap.size from Nat.le_trans SB2.out hbel.size)
  clear hb3 hbel FB2 G2 SB2
  go_wp2
  go_loopw [7, 16] (fun v7 v16 wr => ∃ i : Nat, v16 = .int .i64 (i : Int) ∧ i ≤ n2 ∧ Hid (Bl wr b b (layL (n1 : Int) 4 ++ key ++ (ls.take i).flatten)) ∧ Hid (Below w.heap.size w wr) ∧ Hid (b ≤ wr.heap.size)) (fun _ v16 _ => n2 - (intOf v16).toNat)
  case atStart => exact ⟨0, rfl, Nat.zero_le _, FB3, G3, SB3⟩
  case round =>
    obtain ⟨i, rfl, hi, FBi, Gi, SBi⟩ := hrel
    clear FB3 G3 SB3
    by_cases hlt : i < n2
    · have hlt2 : i < ls.length := by rw [HLN.out]; exact hlt
      obtain ⟨pb, po, pA, pc, rfl, hpb, hcell, hle, hrd⟩ := HL.out.at_ hlt2
      have bi : ((i : Int) + 1) ≤ 10 := by omega
      have q : wr.cell? ⟨pb, po + i, none⟩ = some (.slice pA ls[i].length pc) := (Gi.out.cell (p := ⟨pb, po + i, none⟩) hpb).trans hcell
      obtain ⟨m, hm⟩ : ∃ m, m = ls[i] := ⟨_, rfl⟩
      rw [← hm] at q hle hrd
      have HM := Lib.hid hm
      have HRD := Lib.hid hrd
      have HS := Lib.hid (show (ls.take i).flatten ++ m = (ls.take (i + 1)).flatten by rw [hm]; exact flat_take ls i hlt2)
      have HSl := Lib.hid (show ((ls.take i).flatten ++ m).length ≤ 2500 by rw [HS.out]; exact Nat.le_trans (flat_le ls _) HFL.out)
      clear HM hm hcell hle hrd hlt2
      obtain ⟨k, hk⟩ : ∃ k, k = m.length := ⟨_, rfl⟩
      rw [← hk] at q
      have HKm := Lib.hid hk
      clear hk
      go_wp2_with fail
      refine (write_any FBi.out ((HRD.out.below Gi.out).more Gi.out.size) HKm.out.symm (OFF.out _ _ HRD.out) (by have := HSl.out; have := HKN.out; have := HK2.out; simp only [List.length_append, layL_len] at *; have := HKm.out; omega) SBi.out).mono ?_
      rintro e w4 ⟨rfl, hb4, hbel⟩
      have FB4 := Lib.hid (show Bl w4 b b (layL (n1 : Int) 4 ++ key ++ (ls.take (i + 1)).flatten) by rw [← HS.out, ← List.append_assoc]; exact hb4)
      have G4 := Lib.hid (show Below w.heap.size w w4 from Below.trans Gi.out (Below.mono hbel (by have := HBe.out; omega)))
      have SB4 := Lib.hid (show b ≤ w4.heap.size from Nat.le_trans SBi.out hbel.size)
      clear hb4 hbel FBi Gi SBi
      go_wp2
      go_roundw
      case rel => exact ⟨i + 1, rfl, by omega, FB4, G4, SB4⟩
      case measure => simp [intOf]; omega
    · obtain rfl : i = n2 := by omega
      have HT := Lib.hid (show layL (n1 : Int) 4 ++ key ++ (ls.take i).flatten = sealQ key ls.flatten by rw [List.take_of_length_le (by rw [HLN.out]; exact Nat.le_refl _)]; unfold sealQ; rw [HKN.out])
      have FB5 := Lib.hid (show Bl wr b b (sealQ key ls.flatten) by rw [← HT.out]; exact FBi.out)
      obtain ⟨q, hq⟩ : ∃ q, q = sealQ key ls.flatten := ⟨_, rfl⟩
      rw [← hq] at FB5
      have HQ := Lib.hid hq
      clear hq HT FBi
      go_wp2_with fail
      refine (strB wr b b q FB5.out SBi.out).mono ?_
      rintro e w4 ⟨rfl, hbel⟩
      have G4 := Lib.hid (show Below w.heap.size w w4 from Below.trans Gi.out (Below.mono hbel (by have := HBe.out; omega)))
      clear hbel
      go_wp2
      go_ret
      exact ⟨by rw [HQ.out]; rfl, G4.out⟩
end Go.Proofs.YtjklgmhaebjjaaaGreat.S12
