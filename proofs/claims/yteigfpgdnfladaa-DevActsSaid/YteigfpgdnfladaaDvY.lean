/-
  DevActs out of what is asked of the program's devices.
-/
import Derived.Test.YteigfpgdnfladaaDvB
import Derived.Test.YteigfpgdnfladaaDvX
namespace Go.Proofs.Yteigfpgdnfladaa.S13
open Cf
open Go.RowKit
set_option linter.unusedVariables false
set_option linter.unusedSimpArgs false
/-- The act's block, cell by cell. -/
def SA (a : Nat) (k at_ n : Int) (Ab : Option Addr) (nb cb : Nat) (Ak : Option Addr) (nk ck : Nat) (v : World) : Prop :=
  v.cell? ⟨a, 0, none⟩ = some (.int .i64 k) ∧ v.cell? ⟨a, 1, none⟩ = some (.int .i64 at_) ∧ v.cell? ⟨a, 2, none⟩ = some (.int .i64 n) ∧ v.cell? ⟨a, 3, none⟩ = some (.slice Ab nb cb) ∧ v.cell? ⟨a, 4, none⟩ = some (.slice Ak nk ck)
abbrev acO (k at_ n : Int) (Ab : Option Addr) (nb cb : Nat) (Ak : Option Addr) (nk ck : Nat) : Obj := .cells #[.int .i64 k, .int .i64 at_, .int .i64 n, .slice Ab nb cb, .slice Ak nk ck] 34 (0, 0)
theorem sa_of {a : Nat} {k at_ n : Int} {Ab : Option Addr} {nb cb : Nat} {Ak : Option Addr} {nk ck : Nat} {v : World} {F F2 : Nat → Prop} (h : Bs v F F2 a (acO k at_ n Ab nb cb Ak nk ck)) : SA a k at_ n Ab nb cb Ak nk ck v :=
  ⟨cell_of_row v a 0 _ _ _ h.1, cell_of_row v a 1 _ _ _ h.1, cell_of_row v a 2 _ _ _ h.1, cell_of_row v a 3 _ _ _ h.1, cell_of_row v a 4 _ _ _ h.1⟩
section
variable {D : DTab}
set_option maxHeartbeats 16000000 in
set_option maxRecDepth 20000 in
theorem dacts_walk (K : DevOk D) (n : Int) (DA : Option Addr) (m dc : Nat) (acts : List Ad) (w : World) (hD : RdAd w w.heap.size DA acts) (hm : acts.length = m) (hmc : m ≤ dc) :
    Calls Try.prog 3 #[.int .i64 n, .slice DA m dc] w fun e w' => e = .returned (.bool true) ∧ Below w.heap.size w w' := by
  have KK := Lib.hid K
  have HD := Lib.hid hD
  have HM := Lib.hid hm
  clear hD hm
  by_cases h2 : (m : Int) > 40
  · go_enter Try.func3, Try.ntmps3
    go_wp2_with fail
    refine (awakeD K w).mono ?_
    rintro e w1 ⟨rfl, hg1⟩
    go_wp2_with fail
    refine (awakeD K w1).mono ?_
    rintro e w2 ⟨rfl, hg2⟩
    have HG := Lib.hid (Grown.trans hg1 hg2)
    go_wp2
    go_ret
    exact ⟨rfl, HG.out⟩
  go_enter Try.func3, Try.ntmps3
  go_wp2_with fail
  refine (awakeD K w).mono ?_
  rintro e w1 ⟨rfl, hg1⟩
  have G1 := Lib.hid hg1
  clear hg1
  go_wp2_with fail
  by_cases hr1 : n < 1
  · refine (K.bad w1 n (.inl hr1)).mono ?_
    rintro e w2 ⟨rfl, hg2⟩
    have HG := Lib.hid (Grown.trans G1.out hg2)
    clear hg2
    go_wp2
    go_ret
    exact ⟨rfl, HG.out⟩
  by_cases hr2 : n > 65536
  · refine (K.bad w1 n (.inr (by omega))).mono ?_
    rintro e w2 ⟨rfl, hg2⟩
    have HG := Lib.hid (Grown.trans G1.out hg2)
    clear hg2
    go_wp2
    go_ret
    exact ⟨rfl, HG.out⟩
  obtain ⟨N, rfl⟩ : ∃ N : Nat, n = (N : Int) := ⟨n.toNat, by omega⟩
  have hN1 : 1 ≤ N := by omega
  have hN2 : N ≤ 65536 := by omega
  refine (K.new w1 N hN1 hN2).mono ?_
  rintro e w2 ⟨G, F, rfl, hl, hF, hg2⟩
  have Z2 := Lib.hid (show DSince D w w2 G F (dvNew N) from ⟨hl, fun k hk => Nat.le_trans G1.out.size (hF k hk), Grown.trans G1.out hg2⟩)
  have hsz := K.size w2 G F (dvNew N) hl (by simp [dvNew]; omega)
  rw [show ((dvNew N).kept.length : Int) = (N : Int) by simp [dvNew]] at hsz
  have HSZ := Lib.hid hsz
  clear hl hF hg2 hsz
  go_wp2_with fail
  refine HSZ.out.mono ?_
  rintro e w3 ⟨rfl, hg3⟩
  have Z3 := Lib.hid (Z2.out.grow K hg3)
  clear hg3
  by_cases h30 : (N : Int) > 30
  · go_wp2
    go_ret
    exact ⟨rfl, Z3.out.2.2⟩
  go_wp2_with fail
  refine (refNew_any w3 N (by omega)).mono ?_
  rintro e w4 ⟨R, Ak, rfl, hR, hg4⟩
  have Z4 := Lib.hid (show ∃ F2, Tw D w w4 G F (dvNew N) R F2 (dvNew N) by
    have hfoot := K.foot w3 G F _ Z3.out.1
    refine ⟨RV R Ak none none, (Z3.out.grow K hg4).1, ?_, Z3.out.2.1, fun k hk hr => ?_, Grown.trans Z3.out.2.2 hg4⟩
    · obtain ⟨ck, ca, cw, q1, q2, q3, q4⟩ := hR.ex
      exact ⟨Ak, none, none, { hR with bR := Nat.le_trans Z3.out.2.2.size hR.bR, ex := ⟨ck, ca, cw, q1, owBase q2 Z3.out.2.2.size, owBase q3 Z3.out.2.2.size, owBase q4 Z3.out.2.2.size⟩ }, rfl⟩
    · have := hfoot k hk; have := (hR.lt k hr).1; omega)
  clear hR hg4
  obtain ⟨F2, hT⟩ := Z4.out
  have T4 := Lib.hid hT
  clear hT Z4
  go_wp2_with fail
  go_loopw [8] (fun v8 wr => ∃ (i : Nat) (F F2 : Nat → Prop) (st : Dv), v8 = .int .i64 (i : Int) ∧ i ≤ m ∧ Hid (Ok st i) ∧ Hid (st.kept.length = N) ∧ Hid (Tw D w wr G F st R F2 st)) (fun v8 _ => m - (intOf v8).toNat)
  case atStart => exact ⟨0, F, F2, dvNew N, rfl, Nat.zero_le _, ok_new N, (by show (List.replicate N z512).length = N; simp), T4.out⟩
  case round =>
    clear T4 Z3 Z2 HSZ F F2
    obtain ⟨i, F, F2, st, rfl, hi, HOk, HL, HZ⟩ := hrel
    by_cases hlt : i < m
    · have him : i < acts.length := by rw [HM.out]; exact hlt
      have bi : (i : Int) < (m : Int) := by omega
      obtain ⟨b, off, hDe, hbl, hall⟩ : ∃ b off, DA = some ⟨b, off, none⟩ ∧ b < w.heap.size ∧ _ := by
        rcases HD.out with h0 | ⟨b, off, h1, h2, h3⟩
        · rw [h0] at him; simp at him
        · exact ⟨b, off, h1, h2, h3 i him⟩
      obtain ⟨Ab, nb, cb, Ak, nk, ck, d0, d1, d2, d3, d4, hb1, hb2, hb3, hk1, hk2, hk3, hn1, hn2⟩ := hall
      obtain ⟨ac, hac⟩ : ∃ ac, ac = acts[i] := ⟨_, rfl⟩
      rw [← hac] at d0 d1 d2 hb1 hb3 hk1 hk3 hn1 hn2
      obtain ⟨k, at_, nn, bb, kp⟩ := ac
      simp only at d0 d1 d2 hb1 hb3 hk1 hk3 hn1 hn2
      clear hac him
      obtain ⟨oc, hoc⟩ : ∃ oc, oc = off + i * 5 := ⟨_, rfl⟩
      have cg : ∀ j, wr.cell? ⟨b, j, none⟩ = w.cell? ⟨b, j, none⟩ := fun j => HZ.out.gr.cell (p := ⟨b, j, none⟩) hbl
      rw [← cg] at d0 d1 d2 d3 d4
      have HB1 := Lib.hid hb1
      have HB3 := Lib.hid hb3
      have HK1 := Lib.hid hk1
      have HK3 := Lib.hid hk3
      subst hDe
      clear cg hb1 hb3 hk1 hk3 hoc
      by_cases t1 : (nb : Int) > 600
      · have HG := Lib.hid (Grown.trans HZ.out.gr (alloc_below wr (.cells #[.int .i64 k, .int .i64 at_, .int .i64 nn, .slice Ab nb cb, .slice Ak nk ck] 34)))
        go_wp2
        go_ret
        exact ⟨rfl, HG.out⟩
      by_cases t2 : (nk : Int) > 40
      · have HG := Lib.hid (Grown.trans HZ.out.gr (alloc_below wr (.cells #[.int .i64 k, .int .i64 at_, .int .i64 nn, .slice Ab nb cb, .slice Ak nk ck] 34)))
        go_wp2
        go_ret
        exact ⟨rfl, HG.out⟩
      have hnb : nb ≤ 600 := by omega
      have hnk : nk ≤ 40 := by omega
      have hm40 : m ≤ 40 := by omega
      have hN30 : N ≤ 30 := by omega
      rcases (show k = 0 ∨ k = 1 ∨ k = 2 ∨ k = 3 ∨ k = 4 ∨ k = 5 ∨ k = 6 ∨ k = 7 ∨ (k ≠ 0 ∧ k ≠ 1 ∧ k ≠ 2 ∧ k ≠ 3 ∧ k ≠ 4 ∧ k ≠ 5 ∧ k ≠ 6 ∧ k ≠ 7) by omega) with rfl | rfl | rfl | rfl | rfl | rfl | rfl | rfl | ⟨n0, n1, n2, n3, n4, n5, n6, n7⟩
      · as_aux_lemma =>
          have ZA := Lib.hid (HZ.out.grow K (alloc_below wr (.cells #[.int .i64 0, .int .i64 at_, .int .i64 nn, .slice Ab nb cb, .slice Ak nk ck] 34)))
          have BA := Lib.hid (show Bs (wr.alloc (.cells #[.int .i64 0, .int .i64 at_, .int .i64 nn, .slice Ab nb cb, .slice Ak nk ck] 34)) F F2 wr.heap.size (acO 0 at_ nn Ab nb cb Ak nk ck) from Bs.new K HZ.out _)
          clear HZ
          obtain ⟨er, her⟩ : ∃ er, er = (dvWrite st at_ bb).1 := ⟨_, rfl⟩
          obtain ⟨st1, hst1⟩ : ∃ st1, st1 = (dvWrite st at_ bb).2 := ⟨_, rfl⟩
          have HOk1 := Lib.hid (show Ok st1 (i + 1) by rw [hst1]; exact ok_write HOk.out at_ bb)
          have HL1 := Lib.hid (show st1.kept.length = N by rw [hst1, len_write]; exact HL.out)
          have HP := Lib.hid (fun (v : World) (hv : Tw D w v G F st R F2 st) => K.write v G F st i at_ Ab nb cb bb hv.p HOk.out (show i ≤ 1000 by omega) (show st.kept.length ≤ 100 by have := HL.out; omega) (HB3.out.grow hv.gr) HB1.out hb2 (by omega) (fun x hx hne hf => by have h1 := rd_lt13 HB3.out hne x hx; have h2 := hv.pb _ hf; omega))
          have HR := Lib.hid (fun (v : World) (FP : Nat → Prop) (hv : Tw D w v G FP st1 R F2 st) => rWrite hv.r HOk.out (show i ≤ 1000 by omega) (show st.kept.length ≤ 100 by have := HL.out; omega) at_ Ab nb cb bb (HB3.out.grow hv.gr) HB1.out (by omega) (fun x hx hne hf => by have h1 := rd_lt13 HB3.out hne x hx; have h2 := (rd_foot hv.r _ hf).1; omega))
          rw [← her, ← hst1] at HP HR
          clear her hst1
          go_wp2_with fail
          obtain ⟨a, ha⟩ : ∃ a, a = wr.heap.size := ⟨_, rfl⟩
          rw [← ha] at BA ⊢
          clear ha d0 d1 d2 d3 d4
          generalize wr.alloc _ = va at ZA BA ⊢
          generalize hvd : va.drew = vd
          have ZD := Lib.hid (show Tw D w vd G F st R F2 st by rw [← hvd]; exact ZA.out.grow K ((Below.refl _ va).drew))
          have BD := Lib.hid (show Bs vd F F2 a (acO 0 at_ nn Ab nb cb Ak nk ck) by rw [← hvd]; exact BA.out.grow ((Below.refl _ va).drew))
          clear ZA BA
          refine restS_begin (SA a 0 at_ nn Ab nb cb Ak nk ck) (by kernel_rfl) ?_
          rw [hvd]
          clear hvd
          refine restS_take (i := 0) (sa_of BD.out) rfl (by kernel_rfl) (by kernel_rfl) (by kernel_rfl) (by rfl) (fun v hv => by obtain ⟨s0, s1, s2, s3, s4⟩ := hv; go_simp; try with_reducible rfl) ?_
          try simp only [Act.put, List.setIfInBounds_toArray, List.set_cons_zero, List.set_cons_succ]
          refine restS_take (i := 1) (sa_of BD.out) rfl (by kernel_rfl) (by kernel_rfl) (by kernel_rfl) (by rfl) (fun v hv => by obtain ⟨s0, s1, s2, s3, s4⟩ := hv; go_simp; try with_reducible rfl) ?_
          try simp only [Act.put, List.setIfInBounds_toArray, List.set_cons_zero, List.set_cons_succ]
          refine restS_take (i := 2) (sa_of BD.out) rfl (by kernel_rfl) (by kernel_rfl) (by kernel_rfl) (by rfl) (fun v hv => by obtain ⟨s0, s1, s2, s3, s4⟩ := hv; go_simp; try with_reducible rfl) ?_
          try simp only [Act.put, List.setIfInBounds_toArray, List.set_cons_zero, List.set_cons_succ]
          refine restS_take (i := 3) (sa_of BD.out) rfl (by kernel_rfl) (by kernel_rfl) (by kernel_rfl) (by rfl) (fun v hv => by obtain ⟨s0, s1, s2, s3, s4⟩ := hv; go_simp; try with_reducible rfl) ?_
          try simp only [Act.put, List.setIfInBounds_toArray, List.set_cons_zero, List.set_cons_succ]
          refine restS_take (i := 4) (sa_of BD.out) rfl (by kernel_rfl) (by kernel_rfl) (by kernel_rfl) (by rfl) (fun v hv => by obtain ⟨s0, s1, s2, s3, s4⟩ := hv; go_simp; try with_reducible rfl) ?_
          try simp only [Act.put, List.setIfInBounds_toArray, List.set_cons_zero, List.set_cons_succ]
          refine restS_take (i := 6) (sa_of BD.out) rfl (by kernel_rfl) (by kernel_rfl) (by kernel_rfl) (by rfl) (fun v hv => by obtain ⟨s0, s1, s2, s3, s4⟩ := hv; go_simp; try with_reducible rfl) ?_
          try simp only [Act.put, List.setIfInBounds_toArray, List.set_cons_zero, List.set_cons_succ]
          refine restS_take (i := 7) (sa_of BD.out) rfl (by kernel_rfl) (by kernel_rfl) (by kernel_rfl) (by rfl) (fun v hv => by obtain ⟨s0, s1, s2, s3, s4⟩ := hv; go_simp; try with_reducible rfl) ?_
          try simp only [Act.put, List.setIfInBounds_toArray, List.set_cons_zero, List.set_cons_succ]
          refine restS_take (i := 8) (sa_of BD.out) rfl (by kernel_rfl) (by kernel_rfl) (by kernel_rfl) (by rfl) (fun v hv => by obtain ⟨s0, s1, s2, s3, s4⟩ := hv; go_simp; try with_reducible rfl) ?_
          try simp only [Act.put, List.setIfInBounds_toArray, List.set_cons_zero, List.set_cons_succ]
          refine restS_take (i := 9) (sa_of BD.out) rfl (by kernel_rfl) (by kernel_rfl) (by kernel_rfl) (by rfl) (fun v hv => by obtain ⟨s0, s1, s2, s3, s4⟩ := hv; go_simp; try with_reducible rfl) ?_
          try simp only [Act.put, List.setIfInBounds_toArray, List.set_cons_zero, List.set_cons_succ]
          refine restS_take (i := 10) (sa_of BD.out) rfl (by kernel_rfl) (by kernel_rfl) (by kernel_rfl) (by rfl) (fun v hv => by obtain ⟨s0, s1, s2, s3, s4⟩ := hv; go_simp; try with_reducible rfl) ?_
          try simp only [Act.put, List.setIfInBounds_toArray, List.set_cons_zero, List.set_cons_succ]
          refine restS_lone (i := 5) rfl (by kernel_rfl) (by rfl) (fun K hK => ?_)
          go_simp
          refine (HP.out vd ZD.out).mono ?_
          rintro e v1 ⟨rfl, hd1⟩
          obtain ⟨FP, hz1, hb1⟩ := ZD.out.prog KK.out hd1
          have Z1 := Lib.hid hz1
          have B1 := Lib.hid (hb1 _ _ BD.out)
          clear hd1 hz1 hb1 ZD BD
          refine hK.out _ _ (sa_of B1.out) ?_
          clear hK K
          try simp only [Act.put, List.setIfInBounds_toArray, List.set_cons_zero, List.set_cons_succ]
          refine restS_lone (i := 11) rfl (by kernel_rfl) (by rfl) (fun K hK => ?_)
          go_simp
          refine (HR.out v1 FP Z1.out).mono ?_
          rintro e vz ⟨rfl, hd2⟩
          obtain ⟨FR, hz2, hb2⟩ := Z1.out.ref KK.out hd2
          have ZZ := Lib.hid hz2
          have BZ := Lib.hid (hb2 _ _ B1.out)
          clear hd2 hz2 hb2 Z1 B1 HP HR
          refine hK.out _ _ (sa_of BZ.out) ?_
          clear hK K
          try simp only [Act.put, List.setIfInBounds_toArray, List.set_cons_zero, List.set_cons_succ]
          refine restS_take (i := 12) (sa_of BZ.out) rfl (by kernel_rfl) (by kernel_rfl) (by kernel_rfl) (by rfl) (fun v hv => by obtain ⟨s0, s1, s2, s3, s4⟩ := hv; go_simp; try with_reducible rfl) ?_
          try simp only [Act.put, List.setIfInBounds_toArray, List.set_cons_zero, List.set_cons_succ]
          refine restS_take (i := 13) (sa_of BZ.out) rfl (by kernel_rfl) (by kernel_rfl) (by kernel_rfl) (by rfl) (fun v hv => by obtain ⟨s0, s1, s2, s3, s4⟩ := hv; go_simp; try with_reducible rfl) ?_
          try simp only [Act.put, List.setIfInBounds_toArray, List.set_cons_zero, List.set_cons_succ]
          refine restS_done (by kernel_rfl) ?_
          clear BZ
          go_wp2_with fail
          generalize hvd : vz.drew = vd
          have ZT := Lib.hid (show Tw D w vd G FP st1 R FR st1 by rw [← hvd]; exact ZZ.out.grow KK.out ((Below.refl _ vz).drew))
          obtain ⟨Aa, ca, hca, q1, q3⟩ := rd_cells ZT.out.r
          obtain ⟨pc, hpc⟩ : ∃ pc, pc = (st1).pend.length := ⟨_, rfl⟩
          obtain ⟨ct, hct⟩ : ∃ ct, ct = (st1).count := ⟨_, rfl⟩
          have HCt := Lib.hid (fun (v : World) (hv : Grown vd v) => K.count v G FP st1 (i + 1) (ZT.out.grow K hv).p HOk1.out)
          have HWt := Lib.hid (fun (v : World) (hv : Grown vd v) => K.waits v G FP st1 (i + 1) (ZT.out.grow K hv).p HOk1.out (by omega))
          rw [← hpc] at hca q1 HWt
          rw [← hct] at q3 HCt
          have SX := Lib.hid (show ∀ v : World, Grown vd v → v.cell? ⟨R, 1, none⟩ = some (.slice Aa pc ca) ∧ v.cell? ⟨R, 3, none⟩ = some (.int .i64 ct) from fun v hv => ⟨(hv.cell (p := ⟨R, 1, none⟩) (World.block_lt_of_cell? vd _ q1)).trans q1, (hv.cell (p := ⟨R, 3, none⟩) (World.block_lt_of_cell? vd _ q3)).trans q3⟩)
          have S0 := Lib.hid (SX.out vd (Grown.refl _))
          clear hpc hct q1 q3 ZZ
          refine restS_begin (fun v : World => v.cell? ⟨R, 1, none⟩ = some (.slice Aa pc ca) ∧ v.cell? ⟨R, 3, none⟩ = some (.int .i64 ct)) (by kernel_rfl) ?_
          rw [hvd]
          clear hvd
          refine restS_take (i := 0) S0.out rfl (by kernel_rfl) (by kernel_rfl) (by kernel_rfl) (by rfl) (fun v hv => by obtain ⟨s0, s1⟩ := hv; go_simp; try with_reducible rfl) ?_
          try simp only [Act.put, List.setIfInBounds_toArray, List.set_cons_zero, List.set_cons_succ]
          refine restS_take (i := 1) S0.out rfl (by kernel_rfl) (by kernel_rfl) (by kernel_rfl) (by rfl) (fun v hv => by obtain ⟨s0, s1⟩ := hv; go_simp; try with_reducible rfl) ?_
          try simp only [Act.put, List.setIfInBounds_toArray, List.set_cons_zero, List.set_cons_succ]
          refine restS_take (i := 2) S0.out rfl (by kernel_rfl) (by kernel_rfl) (by kernel_rfl) (by rfl) (fun v hv => by obtain ⟨s0, s1⟩ := hv; go_simp; try with_reducible rfl) ?_
          try simp only [Act.put, List.setIfInBounds_toArray, List.set_cons_zero, List.set_cons_succ]
          refine restS_take (i := 3) S0.out rfl (by kernel_rfl) (by kernel_rfl) (by kernel_rfl) (by rfl) (fun v hv => by obtain ⟨s0, s1⟩ := hv; go_simp; try with_reducible rfl) ?_
          try simp only [Act.put, List.setIfInBounds_toArray, List.set_cons_zero, List.set_cons_succ]
          refine restS_take (i := 5) S0.out rfl (by kernel_rfl) (by kernel_rfl) (by kernel_rfl) (by rfl) (fun v hv => by obtain ⟨s0, s1⟩ := hv; go_simp; try with_reducible rfl) ?_
          try simp only [Act.put, List.setIfInBounds_toArray, List.set_cons_zero, List.set_cons_succ]
          refine restS_take (i := 6) S0.out rfl (by kernel_rfl) (by kernel_rfl) (by kernel_rfl) (by rfl) (fun v hv => by obtain ⟨s0, s1⟩ := hv; go_simp; try with_reducible rfl) ?_
          try simp only [Act.put, List.setIfInBounds_toArray, List.set_cons_zero, List.set_cons_succ]
          refine restS_take (i := 7) S0.out rfl (by kernel_rfl) (by kernel_rfl) (by kernel_rfl) (by rfl) (fun v hv => by obtain ⟨s0, s1⟩ := hv; go_simp; try with_reducible rfl) ?_
          try simp only [Act.put, List.setIfInBounds_toArray, List.set_cons_zero, List.set_cons_succ]
          refine restS_take (i := 8) S0.out rfl (by kernel_rfl) (by kernel_rfl) (by kernel_rfl) (by rfl) (fun v hv => by obtain ⟨s0, s1⟩ := hv; go_simp; try with_reducible rfl) ?_
          try simp only [Act.put, List.setIfInBounds_toArray, List.set_cons_zero, List.set_cons_succ]
          refine restS_lone (i := 4) rfl (by kernel_rfl) (by rfl) (fun K hK => ?_)
          go_simp
          refine (HCt.out vd (Grown.refl _)).mono ?_
          rintro e v3 ⟨rfl, hg3⟩
          have G3 := Lib.hid hg3
          have S3 := Lib.hid (SX.out v3 hg3)
          clear hg3
          refine hK.out _ _ S3.out ?_
          clear hK K
          try simp only [Act.put, List.setIfInBounds_toArray, List.set_cons_zero, List.set_cons_succ]
          refine restS_take (i := 9) S3.out rfl (by kernel_rfl) (by kernel_rfl) (by kernel_rfl) (by rfl) (fun v hv => by obtain ⟨s0, s1⟩ := hv; go_simp; try with_reducible rfl) ?_
          try simp only [Act.put, List.setIfInBounds_toArray, List.set_cons_zero, List.set_cons_succ]
          refine restS_take (i := 10) S3.out rfl (by kernel_rfl) (by kernel_rfl) (by kernel_rfl) (by rfl) (fun v hv => by obtain ⟨s0, s1⟩ := hv; go_simp; try with_reducible rfl) ?_
          try simp only [Act.put, List.setIfInBounds_toArray, List.set_cons_zero, List.set_cons_succ]
          refine restS_take (i := 11) S3.out rfl (by kernel_rfl) (by kernel_rfl) (by kernel_rfl) (by rfl) (fun v hv => by obtain ⟨s0, s1⟩ := hv; go_simp; try with_reducible rfl) ?_
          try simp only [Act.put, List.setIfInBounds_toArray, List.set_cons_zero, List.set_cons_succ]
          refine restS_take (i := 12) S3.out rfl (by kernel_rfl) (by kernel_rfl) (by kernel_rfl) (by rfl) (fun v hv => by obtain ⟨s0, s1⟩ := hv; go_simp; try with_reducible rfl) ?_
          try simp only [Act.put, List.setIfInBounds_toArray, List.set_cons_zero, List.set_cons_succ]
          refine restS_take (i := 14) S3.out rfl (by kernel_rfl) (by kernel_rfl) (by kernel_rfl) (by rfl) (fun v hv => by obtain ⟨s0, s1⟩ := hv; go_simp; try with_reducible rfl) ?_
          try simp only [Act.put, List.setIfInBounds_toArray, List.set_cons_zero, List.set_cons_succ]
          refine restS_take (i := 15) S3.out rfl (by kernel_rfl) (by kernel_rfl) (by kernel_rfl) (by rfl) (fun v hv => by obtain ⟨s0, s1⟩ := hv; go_simp; try with_reducible rfl) ?_
          try simp only [Act.put, List.setIfInBounds_toArray, List.set_cons_zero, List.set_cons_succ]
          refine restS_take (i := 16) S3.out rfl (by kernel_rfl) (by kernel_rfl) (by kernel_rfl) (by rfl) (fun v hv => by obtain ⟨s0, s1⟩ := hv; go_simp; try with_reducible rfl) ?_
          try simp only [Act.put, List.setIfInBounds_toArray, List.set_cons_zero, List.set_cons_succ]
          refine restS_take (i := 17) S3.out rfl (by kernel_rfl) (by kernel_rfl) (by kernel_rfl) (by rfl) (fun v hv => by obtain ⟨s0, s1⟩ := hv; go_simp; try with_reducible rfl) ?_
          try simp only [Act.put, List.setIfInBounds_toArray, List.set_cons_zero, List.set_cons_succ]
          refine restS_take (i := 18) S3.out rfl (by kernel_rfl) (by kernel_rfl) (by kernel_rfl) (by rfl) (fun v hv => by obtain ⟨s0, s1⟩ := hv; go_simp; try with_reducible rfl) ?_
          try simp only [Act.put, List.setIfInBounds_toArray, List.set_cons_zero, List.set_cons_succ]
          refine restS_lone (i := 13) rfl (by kernel_rfl) (by rfl) (fun K hK => ?_)
          go_simp
          refine (HWt.out v3 G3.out).mono ?_
          rintro e v4 ⟨rfl, hg4⟩
          have S4 := Lib.hid (SX.out v4 (G3.out.trans hg4))
          have Z9 := Lib.hid (ZT.out.grow KK.out (G3.out.trans hg4))
          clear hg4
          refine hK.out _ _ S4.out ?_
          clear hK K
          try simp only [Act.put, List.setIfInBounds_toArray, List.set_cons_zero, List.set_cons_succ]
          refine restS_take (i := 19) S4.out rfl (by kernel_rfl) (by kernel_rfl) (by kernel_rfl) (by rfl) (fun v hv => by obtain ⟨s0, s1⟩ := hv; go_simp; try with_reducible rfl) ?_
          try simp only [Act.put, List.setIfInBounds_toArray, List.set_cons_zero, List.set_cons_succ]
          refine restS_take (i := 20) S4.out rfl (by kernel_rfl) (by kernel_rfl) (by kernel_rfl) (by rfl) (fun v hv => by obtain ⟨s0, s1⟩ := hv; go_simp; try with_reducible rfl) ?_
          try simp only [Act.put, List.setIfInBounds_toArray, List.set_cons_zero, List.set_cons_succ]
          refine restS_done (by kernel_rfl) ?_
          clear S0 S3 S4 SX HCt HWt
          go_wp2
          exact ⟨⟨i + 1, FP, FR, st1, by simp, by omega, HOk1.out, HL1.out, Z9.out⟩, by simp [intOf]; omega⟩
      · as_aux_lemma =>
          have ZA := Lib.hid (HZ.out.grow K (alloc_below wr (.cells #[.int .i64 1, .int .i64 at_, .int .i64 nn, .slice Ab nb cb, .slice Ak nk ck] 34)))
          have BA := Lib.hid (show Bs (wr.alloc (.cells #[.int .i64 1, .int .i64 at_, .int .i64 nn, .slice Ab nb cb, .slice Ak nk ck] 34)) F F2 wr.heap.size (acO 1 at_ nn Ab nb cb Ak nk ck) from Bs.new K HZ.out _)
          clear HZ
          obtain ⟨lx, hlx⟩ : ∃ lx, lx = (dvRead st at_).1 := ⟨_, rfl⟩
          obtain ⟨er, her⟩ : ∃ er, er = (dvRead st at_).2.1 := ⟨_, rfl⟩
          obtain ⟨st1, hst1⟩ : ∃ st1, st1 = (dvRead st at_).2.2 := ⟨_, rfl⟩
          have HOk1 := Lib.hid (show Ok st1 (i + 1) by rw [hst1]; exact (ok_read HOk.out at_).up (by omega))
          have HL1 := Lib.hid (show st1.kept.length = N by rw [hst1, len_read]; exact HL.out)
          have HLX := Lib.hid (show lx = [] ∨ lx.length = 512 by
            rw [hlx]; unfold dvRead
            split
            · exact .inl rfl
            · rename_i hin
              split
              · refine .inr (see_len HOk.out ?_)
                have hin2 : inR st at_ := Classical.byContradiction hin
                have := hin2.1; have := hin2.2; omega
              · exact .inl rfl)
          have HP := Lib.hid (fun (v : World) (hv : Tw D w v G F st R F2 st) => K.read v G F st i at_ hv.p HOk.out (show i ≤ 1000 by omega) (show st.kept.length ≤ 100 by have := HL.out; omega))
          have HR := Lib.hid (fun (v : World) (FP : Nat → Prop) (hv : Tw D w v G FP st1 R F2 st) => rRead hv.r HOk.out (show i ≤ 1000 by omega) (show st.kept.length ≤ 100 by have := HL.out; omega) at_)
          rw [← hlx, ← her, ← hst1] at HP HR
          clear hlx her hst1
          go_wp2_with fail
          refine (HP.out _ ZA.out).mono ?_
          rintro e v1 ⟨Ax, mx, cx, rfl, hx1, hx2, hx3, FP, hd, hF, hc, hx⟩
          obtain ⟨hz1, hb1⟩ := ZA.out.stepP hd hF hc
          have Z1 := Lib.hid hz1
          have B1 := Lib.hid (hb1 _ _ BA.out)
          have HX := Lib.hid hx
          have OX := Lib.hid hx3
          have FA := Lib.hid (show ∀ k, F2 k → k < (wr.alloc (.cells #[.int .i64 1, .int .i64 at_, .int .i64 nn, .slice Ab nb cb, .slice Ak nk ck] 34)).heap.size from fun k hk => (rd_foot ZA.out.r k hk).2)
          have WX := Lib.hid (show w.heap.size ≤ (wr.alloc (.cells #[.int .i64 1, .int .i64 at_, .int .i64 nn, .slice Ab nb cb, .slice Ak nk ck] 34)).heap.size from ZA.out.gr.size)
          obtain ⟨s0, s1, s2, s3, s4⟩ := sa_of B1.out
          clear hd hF hc hx hx3 hz1 hb1 ZA BA
          go_wp2_with fail
          clear s0 s1 s2 s3 s4
          refine (HR.out v1 FP Z1.out).mono ?_
          rintro e v2 ⟨rfl, hd2⟩
          obtain ⟨FR, hz2, hb2⟩ := Z1.out.ref K hd2
          have Z2 := Lib.hid hz2
          rw [show sv lx = Value.string ⟨lx.toArray⟩ from rfl]
          by_cases hl0 : lx = []
          · subst hl0
            obtain rfl : mx = 0 := by rw [← hx1]; rfl
            have hcv : (convert 31 9 (.slice Ax 0 cx)).run Try.prog v2 = .ok (.string ⟨#[]⟩) v2 := conv (w := v2) (B := 0) (A := Ax) (l := []) (.inl rfl) cx
            have ZZ := Lib.hid hz2
            clear hd2 hz2 hb2 Z1 B1 Z2 HP HR HX OX FA WX hx1 hx2
            go_wp2_with fail
            clear hcv
            generalize v2 = vz at ZZ ⊢
            generalize hvd : vz.drew = vd
            have ZT := Lib.hid (show Tw D w vd G FP st1 R FR st1 by rw [← hvd]; exact ZZ.out.grow KK.out ((Below.refl _ vz).drew))
            obtain ⟨Aa, ca, hca, q1, q3⟩ := rd_cells ZT.out.r
            obtain ⟨pc, hpc⟩ : ∃ pc, pc = (st1).pend.length := ⟨_, rfl⟩
            obtain ⟨ct, hct⟩ : ∃ ct, ct = (st1).count := ⟨_, rfl⟩
            have HCt := Lib.hid (fun (v : World) (hv : Grown vd v) => K.count v G FP st1 (i + 1) (ZT.out.grow K hv).p HOk1.out)
            have HWt := Lib.hid (fun (v : World) (hv : Grown vd v) => K.waits v G FP st1 (i + 1) (ZT.out.grow K hv).p HOk1.out (by omega))
            rw [← hpc] at hca q1 HWt
            rw [← hct] at q3 HCt
            have SX := Lib.hid (show ∀ v : World, Grown vd v → v.cell? ⟨R, 1, none⟩ = some (.slice Aa pc ca) ∧ v.cell? ⟨R, 3, none⟩ = some (.int .i64 ct) from fun v hv => ⟨(hv.cell (p := ⟨R, 1, none⟩) (World.block_lt_of_cell? vd _ q1)).trans q1, (hv.cell (p := ⟨R, 3, none⟩) (World.block_lt_of_cell? vd _ q3)).trans q3⟩)
            have S0 := Lib.hid (SX.out vd (Grown.refl _))
            clear hpc hct q1 q3 ZZ
            refine restS_begin (fun v : World => v.cell? ⟨R, 1, none⟩ = some (.slice Aa pc ca) ∧ v.cell? ⟨R, 3, none⟩ = some (.int .i64 ct)) (by kernel_rfl) ?_
            rw [hvd]
            clear hvd
            refine restS_take (i := 0) S0.out rfl (by kernel_rfl) (by kernel_rfl) (by kernel_rfl) (by rfl) (fun v hv => by obtain ⟨s0, s1⟩ := hv; go_simp; try with_reducible rfl) ?_
            try simp only [Act.put, List.setIfInBounds_toArray, List.set_cons_zero, List.set_cons_succ]
            refine restS_take (i := 1) S0.out rfl (by kernel_rfl) (by kernel_rfl) (by kernel_rfl) (by rfl) (fun v hv => by obtain ⟨s0, s1⟩ := hv; go_simp; try with_reducible rfl) ?_
            try simp only [Act.put, List.setIfInBounds_toArray, List.set_cons_zero, List.set_cons_succ]
            refine restS_take (i := 2) S0.out rfl (by kernel_rfl) (by kernel_rfl) (by kernel_rfl) (by rfl) (fun v hv => by obtain ⟨s0, s1⟩ := hv; go_simp; try with_reducible rfl) ?_
            try simp only [Act.put, List.setIfInBounds_toArray, List.set_cons_zero, List.set_cons_succ]
            refine restS_take (i := 3) S0.out rfl (by kernel_rfl) (by kernel_rfl) (by kernel_rfl) (by rfl) (fun v hv => by obtain ⟨s0, s1⟩ := hv; go_simp; try with_reducible rfl) ?_
            try simp only [Act.put, List.setIfInBounds_toArray, List.set_cons_zero, List.set_cons_succ]
            refine restS_take (i := 5) S0.out rfl (by kernel_rfl) (by kernel_rfl) (by kernel_rfl) (by rfl) (fun v hv => by obtain ⟨s0, s1⟩ := hv; go_simp; try with_reducible rfl) ?_
            try simp only [Act.put, List.setIfInBounds_toArray, List.set_cons_zero, List.set_cons_succ]
            refine restS_take (i := 6) S0.out rfl (by kernel_rfl) (by kernel_rfl) (by kernel_rfl) (by rfl) (fun v hv => by obtain ⟨s0, s1⟩ := hv; go_simp; try with_reducible rfl) ?_
            try simp only [Act.put, List.setIfInBounds_toArray, List.set_cons_zero, List.set_cons_succ]
            refine restS_take (i := 7) S0.out rfl (by kernel_rfl) (by kernel_rfl) (by kernel_rfl) (by rfl) (fun v hv => by obtain ⟨s0, s1⟩ := hv; go_simp; try with_reducible rfl) ?_
            try simp only [Act.put, List.setIfInBounds_toArray, List.set_cons_zero, List.set_cons_succ]
            refine restS_take (i := 8) S0.out rfl (by kernel_rfl) (by kernel_rfl) (by kernel_rfl) (by rfl) (fun v hv => by obtain ⟨s0, s1⟩ := hv; go_simp; try with_reducible rfl) ?_
            try simp only [Act.put, List.setIfInBounds_toArray, List.set_cons_zero, List.set_cons_succ]
            refine restS_lone (i := 4) rfl (by kernel_rfl) (by rfl) (fun K hK => ?_)
            go_simp
            refine (HCt.out vd (Grown.refl _)).mono ?_
            rintro e v3 ⟨rfl, hg3⟩
            have G3 := Lib.hid hg3
            have S3 := Lib.hid (SX.out v3 hg3)
            clear hg3
            refine hK.out _ _ S3.out ?_
            clear hK K
            try simp only [Act.put, List.setIfInBounds_toArray, List.set_cons_zero, List.set_cons_succ]
            refine restS_take (i := 9) S3.out rfl (by kernel_rfl) (by kernel_rfl) (by kernel_rfl) (by rfl) (fun v hv => by obtain ⟨s0, s1⟩ := hv; go_simp; try with_reducible rfl) ?_
            try simp only [Act.put, List.setIfInBounds_toArray, List.set_cons_zero, List.set_cons_succ]
            refine restS_take (i := 10) S3.out rfl (by kernel_rfl) (by kernel_rfl) (by kernel_rfl) (by rfl) (fun v hv => by obtain ⟨s0, s1⟩ := hv; go_simp; try with_reducible rfl) ?_
            try simp only [Act.put, List.setIfInBounds_toArray, List.set_cons_zero, List.set_cons_succ]
            refine restS_take (i := 11) S3.out rfl (by kernel_rfl) (by kernel_rfl) (by kernel_rfl) (by rfl) (fun v hv => by obtain ⟨s0, s1⟩ := hv; go_simp; try with_reducible rfl) ?_
            try simp only [Act.put, List.setIfInBounds_toArray, List.set_cons_zero, List.set_cons_succ]
            refine restS_take (i := 12) S3.out rfl (by kernel_rfl) (by kernel_rfl) (by kernel_rfl) (by rfl) (fun v hv => by obtain ⟨s0, s1⟩ := hv; go_simp; try with_reducible rfl) ?_
            try simp only [Act.put, List.setIfInBounds_toArray, List.set_cons_zero, List.set_cons_succ]
            refine restS_take (i := 14) S3.out rfl (by kernel_rfl) (by kernel_rfl) (by kernel_rfl) (by rfl) (fun v hv => by obtain ⟨s0, s1⟩ := hv; go_simp; try with_reducible rfl) ?_
            try simp only [Act.put, List.setIfInBounds_toArray, List.set_cons_zero, List.set_cons_succ]
            refine restS_take (i := 15) S3.out rfl (by kernel_rfl) (by kernel_rfl) (by kernel_rfl) (by rfl) (fun v hv => by obtain ⟨s0, s1⟩ := hv; go_simp; try with_reducible rfl) ?_
            try simp only [Act.put, List.setIfInBounds_toArray, List.set_cons_zero, List.set_cons_succ]
            refine restS_take (i := 16) S3.out rfl (by kernel_rfl) (by kernel_rfl) (by kernel_rfl) (by rfl) (fun v hv => by obtain ⟨s0, s1⟩ := hv; go_simp; try with_reducible rfl) ?_
            try simp only [Act.put, List.setIfInBounds_toArray, List.set_cons_zero, List.set_cons_succ]
            refine restS_take (i := 17) S3.out rfl (by kernel_rfl) (by kernel_rfl) (by kernel_rfl) (by rfl) (fun v hv => by obtain ⟨s0, s1⟩ := hv; go_simp; try with_reducible rfl) ?_
            try simp only [Act.put, List.setIfInBounds_toArray, List.set_cons_zero, List.set_cons_succ]
            refine restS_take (i := 18) S3.out rfl (by kernel_rfl) (by kernel_rfl) (by kernel_rfl) (by rfl) (fun v hv => by obtain ⟨s0, s1⟩ := hv; go_simp; try with_reducible rfl) ?_
            try simp only [Act.put, List.setIfInBounds_toArray, List.set_cons_zero, List.set_cons_succ]
            refine restS_lone (i := 13) rfl (by kernel_rfl) (by rfl) (fun K hK => ?_)
            go_simp
            refine (HWt.out v3 G3.out).mono ?_
            rintro e v4 ⟨rfl, hg4⟩
            have S4 := Lib.hid (SX.out v4 (G3.out.trans hg4))
            have Z9 := Lib.hid (ZT.out.grow KK.out (G3.out.trans hg4))
            clear hg4
            refine hK.out _ _ S4.out ?_
            clear hK K
            try simp only [Act.put, List.setIfInBounds_toArray, List.set_cons_zero, List.set_cons_succ]
            refine restS_take (i := 19) S4.out rfl (by kernel_rfl) (by kernel_rfl) (by kernel_rfl) (by rfl) (fun v hv => by obtain ⟨s0, s1⟩ := hv; go_simp; try with_reducible rfl) ?_
            try simp only [Act.put, List.setIfInBounds_toArray, List.set_cons_zero, List.set_cons_succ]
            refine restS_take (i := 20) S4.out rfl (by kernel_rfl) (by kernel_rfl) (by kernel_rfl) (by rfl) (fun v hv => by obtain ⟨s0, s1⟩ := hv; go_simp; try with_reducible rfl) ?_
            try simp only [Act.put, List.setIfInBounds_toArray, List.set_cons_zero, List.set_cons_succ]
            refine restS_done (by kernel_rfl) ?_
            clear S0 S3 S4 SX HCt HWt
            go_wp2
            exact ⟨⟨i + 1, FP, FR, st1, by simp, by omega, HOk1.out, HL1.out, Z9.out⟩, by simp [intOf]; omega⟩
          · obtain rfl : mx = 512 := by
              rcases HLX.out with h1 | h1
              · exact absurd h1 hl0
              · rw [← hx1, h1]
            obtain ⟨g, tt, cur, hg1, hg2, hg3, hg4, hg5⟩ : ∃ g tt cur, Ax = some ⟨g, 0, none⟩ ∧ _ := by
              rcases OX.out.form with ⟨_, h1, _⟩ | h1
              · exact absurd h1 hl0
              · exact h1
            have BX := hb2 g _ ⟨hg3, HX.out _ hg1, fun hf => by have := FA.out g hf; omega⟩
            have hrd : Rd v2 v2.heap.size Ax lx := by
              rcases OX.out.rd with h1 | ⟨b', off', h1, h3, h4⟩
              · exact .inl h1
              · have : b' = g := by rw [hg1] at h1; simp only [Option.some.injEq, Addr.mk.injEq] at h1; exact h1.1.symm
                subst this
                exact .inr ⟨b', off', h1, lt_of_heap BX.1, fun j hj => by rw [World.cell?_of_block (a := ⟨b', off' + j, none⟩) (BX.1.trans hg3.symm)]; exact h4 j hj⟩
            have hcv := conv hrd cx
            rw [hx1] at hcv
            obtain ⟨b', off', e1, _, hc0⟩ := hrd.at_ (k := 0) (by rw [hx1]; omega)
            rw [hg1] at e1
            simp only [Option.some.injEq, Addr.mk.injEq] at e1
            obtain ⟨rfl, rfl, _⟩ := e1
            have hf0 : v2.frozen? ⟨g, 0, none⟩ = false := frozen_of_row v2 g 0 _ _ BX.1
            subst hg1
            rw [Nat.add_zero] at hc0
            generalize (lx[0]).toNat = x0 at hc0
            have HBE := Lib.hid (fun u => hz2.beside K BX.2.1 BX.2.2 (Nat.le_trans WX.out hg2) 0 u)
            clear hd2 hz2 hb2 Z1 B1 Z2 HP HR HX OX FA WX hx1 hx2 hrd BX hg2 hg3 hg4 hg5 hl0
            go_wp2_with fail
            clear hcv hc0 hf0
            generalize hvz : v2.setCell _ _ = vz
            have ZZ := Lib.hid (show Tw D w vz G FP st1 R FR st1 by rw [← hvz]; exact HBE.out _)
            clear hvz HBE
            generalize hvd : vz.drew = vd
            have ZT := Lib.hid (show Tw D w vd G FP st1 R FR st1 by rw [← hvd]; exact ZZ.out.grow KK.out ((Below.refl _ vz).drew))
            obtain ⟨Aa, ca, hca, q1, q3⟩ := rd_cells ZT.out.r
            obtain ⟨pc, hpc⟩ : ∃ pc, pc = (st1).pend.length := ⟨_, rfl⟩
            obtain ⟨ct, hct⟩ : ∃ ct, ct = (st1).count := ⟨_, rfl⟩
            have HCt := Lib.hid (fun (v : World) (hv : Grown vd v) => K.count v G FP st1 (i + 1) (ZT.out.grow K hv).p HOk1.out)
            have HWt := Lib.hid (fun (v : World) (hv : Grown vd v) => K.waits v G FP st1 (i + 1) (ZT.out.grow K hv).p HOk1.out (by omega))
            rw [← hpc] at hca q1 HWt
            rw [← hct] at q3 HCt
            have SX := Lib.hid (show ∀ v : World, Grown vd v → v.cell? ⟨R, 1, none⟩ = some (.slice Aa pc ca) ∧ v.cell? ⟨R, 3, none⟩ = some (.int .i64 ct) from fun v hv => ⟨(hv.cell (p := ⟨R, 1, none⟩) (World.block_lt_of_cell? vd _ q1)).trans q1, (hv.cell (p := ⟨R, 3, none⟩) (World.block_lt_of_cell? vd _ q3)).trans q3⟩)
            have S0 := Lib.hid (SX.out vd (Grown.refl _))
            clear hpc hct q1 q3 ZZ
            refine restS_begin (fun v : World => v.cell? ⟨R, 1, none⟩ = some (.slice Aa pc ca) ∧ v.cell? ⟨R, 3, none⟩ = some (.int .i64 ct)) (by kernel_rfl) ?_
            rw [hvd]
            clear hvd
            refine restS_take (i := 0) S0.out rfl (by kernel_rfl) (by kernel_rfl) (by kernel_rfl) (by rfl) (fun v hv => by obtain ⟨s0, s1⟩ := hv; go_simp; try with_reducible rfl) ?_
            try simp only [Act.put, List.setIfInBounds_toArray, List.set_cons_zero, List.set_cons_succ]
            refine restS_take (i := 1) S0.out rfl (by kernel_rfl) (by kernel_rfl) (by kernel_rfl) (by rfl) (fun v hv => by obtain ⟨s0, s1⟩ := hv; go_simp; try with_reducible rfl) ?_
            try simp only [Act.put, List.setIfInBounds_toArray, List.set_cons_zero, List.set_cons_succ]
            refine restS_take (i := 2) S0.out rfl (by kernel_rfl) (by kernel_rfl) (by kernel_rfl) (by rfl) (fun v hv => by obtain ⟨s0, s1⟩ := hv; go_simp; try with_reducible rfl) ?_
            try simp only [Act.put, List.setIfInBounds_toArray, List.set_cons_zero, List.set_cons_succ]
            refine restS_take (i := 3) S0.out rfl (by kernel_rfl) (by kernel_rfl) (by kernel_rfl) (by rfl) (fun v hv => by obtain ⟨s0, s1⟩ := hv; go_simp; try with_reducible rfl) ?_
            try simp only [Act.put, List.setIfInBounds_toArray, List.set_cons_zero, List.set_cons_succ]
            refine restS_take (i := 5) S0.out rfl (by kernel_rfl) (by kernel_rfl) (by kernel_rfl) (by rfl) (fun v hv => by obtain ⟨s0, s1⟩ := hv; go_simp; try with_reducible rfl) ?_
            try simp only [Act.put, List.setIfInBounds_toArray, List.set_cons_zero, List.set_cons_succ]
            refine restS_take (i := 6) S0.out rfl (by kernel_rfl) (by kernel_rfl) (by kernel_rfl) (by rfl) (fun v hv => by obtain ⟨s0, s1⟩ := hv; go_simp; try with_reducible rfl) ?_
            try simp only [Act.put, List.setIfInBounds_toArray, List.set_cons_zero, List.set_cons_succ]
            refine restS_take (i := 7) S0.out rfl (by kernel_rfl) (by kernel_rfl) (by kernel_rfl) (by rfl) (fun v hv => by obtain ⟨s0, s1⟩ := hv; go_simp; try with_reducible rfl) ?_
            try simp only [Act.put, List.setIfInBounds_toArray, List.set_cons_zero, List.set_cons_succ]
            refine restS_take (i := 8) S0.out rfl (by kernel_rfl) (by kernel_rfl) (by kernel_rfl) (by rfl) (fun v hv => by obtain ⟨s0, s1⟩ := hv; go_simp; try with_reducible rfl) ?_
            try simp only [Act.put, List.setIfInBounds_toArray, List.set_cons_zero, List.set_cons_succ]
            refine restS_lone (i := 4) rfl (by kernel_rfl) (by rfl) (fun K hK => ?_)
            go_simp
            refine (HCt.out vd (Grown.refl _)).mono ?_
            rintro e v3 ⟨rfl, hg3⟩
            have G3 := Lib.hid hg3
            have S3 := Lib.hid (SX.out v3 hg3)
            clear hg3
            refine hK.out _ _ S3.out ?_
            clear hK K
            try simp only [Act.put, List.setIfInBounds_toArray, List.set_cons_zero, List.set_cons_succ]
            refine restS_take (i := 9) S3.out rfl (by kernel_rfl) (by kernel_rfl) (by kernel_rfl) (by rfl) (fun v hv => by obtain ⟨s0, s1⟩ := hv; go_simp; try with_reducible rfl) ?_
            try simp only [Act.put, List.setIfInBounds_toArray, List.set_cons_zero, List.set_cons_succ]
            refine restS_take (i := 10) S3.out rfl (by kernel_rfl) (by kernel_rfl) (by kernel_rfl) (by rfl) (fun v hv => by obtain ⟨s0, s1⟩ := hv; go_simp; try with_reducible rfl) ?_
            try simp only [Act.put, List.setIfInBounds_toArray, List.set_cons_zero, List.set_cons_succ]
            refine restS_take (i := 11) S3.out rfl (by kernel_rfl) (by kernel_rfl) (by kernel_rfl) (by rfl) (fun v hv => by obtain ⟨s0, s1⟩ := hv; go_simp; try with_reducible rfl) ?_
            try simp only [Act.put, List.setIfInBounds_toArray, List.set_cons_zero, List.set_cons_succ]
            refine restS_take (i := 12) S3.out rfl (by kernel_rfl) (by kernel_rfl) (by kernel_rfl) (by rfl) (fun v hv => by obtain ⟨s0, s1⟩ := hv; go_simp; try with_reducible rfl) ?_
            try simp only [Act.put, List.setIfInBounds_toArray, List.set_cons_zero, List.set_cons_succ]
            refine restS_take (i := 14) S3.out rfl (by kernel_rfl) (by kernel_rfl) (by kernel_rfl) (by rfl) (fun v hv => by obtain ⟨s0, s1⟩ := hv; go_simp; try with_reducible rfl) ?_
            try simp only [Act.put, List.setIfInBounds_toArray, List.set_cons_zero, List.set_cons_succ]
            refine restS_take (i := 15) S3.out rfl (by kernel_rfl) (by kernel_rfl) (by kernel_rfl) (by rfl) (fun v hv => by obtain ⟨s0, s1⟩ := hv; go_simp; try with_reducible rfl) ?_
            try simp only [Act.put, List.setIfInBounds_toArray, List.set_cons_zero, List.set_cons_succ]
            refine restS_take (i := 16) S3.out rfl (by kernel_rfl) (by kernel_rfl) (by kernel_rfl) (by rfl) (fun v hv => by obtain ⟨s0, s1⟩ := hv; go_simp; try with_reducible rfl) ?_
            try simp only [Act.put, List.setIfInBounds_toArray, List.set_cons_zero, List.set_cons_succ]
            refine restS_take (i := 17) S3.out rfl (by kernel_rfl) (by kernel_rfl) (by kernel_rfl) (by rfl) (fun v hv => by obtain ⟨s0, s1⟩ := hv; go_simp; try with_reducible rfl) ?_
            try simp only [Act.put, List.setIfInBounds_toArray, List.set_cons_zero, List.set_cons_succ]
            refine restS_take (i := 18) S3.out rfl (by kernel_rfl) (by kernel_rfl) (by kernel_rfl) (by rfl) (fun v hv => by obtain ⟨s0, s1⟩ := hv; go_simp; try with_reducible rfl) ?_
            try simp only [Act.put, List.setIfInBounds_toArray, List.set_cons_zero, List.set_cons_succ]
            refine restS_lone (i := 13) rfl (by kernel_rfl) (by rfl) (fun K hK => ?_)
            go_simp
            refine (HWt.out v3 G3.out).mono ?_
            rintro e v4 ⟨rfl, hg4⟩
            have S4 := Lib.hid (SX.out v4 (G3.out.trans hg4))
            have Z9 := Lib.hid (ZT.out.grow KK.out (G3.out.trans hg4))
            clear hg4
            refine hK.out _ _ S4.out ?_
            clear hK K
            try simp only [Act.put, List.setIfInBounds_toArray, List.set_cons_zero, List.set_cons_succ]
            refine restS_take (i := 19) S4.out rfl (by kernel_rfl) (by kernel_rfl) (by kernel_rfl) (by rfl) (fun v hv => by obtain ⟨s0, s1⟩ := hv; go_simp; try with_reducible rfl) ?_
            try simp only [Act.put, List.setIfInBounds_toArray, List.set_cons_zero, List.set_cons_succ]
            refine restS_take (i := 20) S4.out rfl (by kernel_rfl) (by kernel_rfl) (by kernel_rfl) (by rfl) (fun v hv => by obtain ⟨s0, s1⟩ := hv; go_simp; try with_reducible rfl) ?_
            try simp only [Act.put, List.setIfInBounds_toArray, List.set_cons_zero, List.set_cons_succ]
            refine restS_done (by kernel_rfl) ?_
            clear S0 S3 S4 SX HCt HWt
            go_wp2
            exact ⟨⟨i + 1, FP, FR, st1, by simp, by omega, HOk1.out, HL1.out, Z9.out⟩, by simp [intOf]; omega⟩
      · as_aux_lemma =>
          have ZA := Lib.hid (HZ.out.grow K (alloc_below wr (.cells #[.int .i64 2, .int .i64 at_, .int .i64 nn, .slice Ab nb cb, .slice Ak nk ck] 34)))
          have BA := Lib.hid (show Bs (wr.alloc (.cells #[.int .i64 2, .int .i64 at_, .int .i64 nn, .slice Ab nb cb, .slice Ak nk ck] 34)) F F2 wr.heap.size (acO 2 at_ nn Ab nb cb Ak nk ck) from Bs.new K HZ.out _)
          clear HZ
          obtain ⟨er, her⟩ : ∃ er, er = (dvFlush st).1 := ⟨_, rfl⟩
          obtain ⟨st1, hst1⟩ : ∃ st1, st1 = (dvFlush st).2 := ⟨_, rfl⟩
          have HOk1 := Lib.hid (show Ok st1 (i + 1) by rw [hst1]; exact (ok_flush HOk.out).up (by omega))
          have HL1 := Lib.hid (show st1.kept.length = N by rw [hst1]; rw [len_flush]; exact HL.out)
          have HP := Lib.hid (fun (v : World) (hv : Tw D w v G F st R F2 st) => K.flush v G F st i hv.p HOk.out (show i ≤ 1000 by omega) (show st.kept.length ≤ 100 by have := HL.out; omega))
          have HR := Lib.hid (fun (v : World) (FP : Nat → Prop) (hv : Tw D w v G FP st1 R F2 st) => rFlush hv.r HOk.out (show i ≤ 1000 by omega) (show st.kept.length ≤ 100 by have := HL.out; omega))
          rw [← her, ← hst1] at HP HR
          clear her hst1
          go_wp2_with fail
          refine (HP.out _ ZA.out).mono ?_
          rintro e v1 ⟨rfl, hd1⟩
          obtain ⟨FP, hz1, hb1⟩ := ZA.out.prog K hd1
          have Z1 := Lib.hid hz1
          have B1 := Lib.hid (hb1 _ _ BA.out)
          obtain ⟨s0, s1, s2, s3, s4⟩ := sa_of B1.out
          clear hd1 hz1 hb1 ZA BA
          go_wp2_with fail
          clear s0 s1 s2 s3 s4
          refine (HR.out v1 FP Z1.out).mono ?_
          rintro e vz ⟨rfl, hd2⟩
          obtain ⟨FR, hz2, hb2⟩ := Z1.out.ref K hd2
          have ZZ := Lib.hid hz2
          have BZ := Lib.hid (hb2 _ _ B1.out)
          obtain ⟨s0, s1, s2, s3, s4⟩ := sa_of BZ.out
          clear hd2 hz2 hb2 Z1 B1 HP HR
          go_wp2_with fail
          clear s0 s1 s2 s3 s4 BZ
          generalize hvd : vz.drew = vd
          have ZT := Lib.hid (show Tw D w vd G FP st1 R FR st1 by rw [← hvd]; exact ZZ.out.grow KK.out ((Below.refl _ vz).drew))
          obtain ⟨Aa, ca, hca, q1, q3⟩ := rd_cells ZT.out.r
          obtain ⟨pc, hpc⟩ : ∃ pc, pc = (st1).pend.length := ⟨_, rfl⟩
          obtain ⟨ct, hct⟩ : ∃ ct, ct = (st1).count := ⟨_, rfl⟩
          have HCt := Lib.hid (fun (v : World) (hv : Grown vd v) => K.count v G FP st1 (i + 1) (ZT.out.grow K hv).p HOk1.out)
          have HWt := Lib.hid (fun (v : World) (hv : Grown vd v) => K.waits v G FP st1 (i + 1) (ZT.out.grow K hv).p HOk1.out (by omega))
          rw [← hpc] at hca q1 HWt
          rw [← hct] at q3 HCt
          have SX := Lib.hid (show ∀ v : World, Grown vd v → v.cell? ⟨R, 1, none⟩ = some (.slice Aa pc ca) ∧ v.cell? ⟨R, 3, none⟩ = some (.int .i64 ct) from fun v hv => ⟨(hv.cell (p := ⟨R, 1, none⟩) (World.block_lt_of_cell? vd _ q1)).trans q1, (hv.cell (p := ⟨R, 3, none⟩) (World.block_lt_of_cell? vd _ q3)).trans q3⟩)
          have S0 := Lib.hid (SX.out vd (Grown.refl _))
          clear hpc hct q1 q3 ZZ
          refine restS_begin (fun v : World => v.cell? ⟨R, 1, none⟩ = some (.slice Aa pc ca) ∧ v.cell? ⟨R, 3, none⟩ = some (.int .i64 ct)) (by kernel_rfl) ?_
          rw [hvd]
          clear hvd
          refine restS_take (i := 0) S0.out rfl (by kernel_rfl) (by kernel_rfl) (by kernel_rfl) (by rfl) (fun v hv => by obtain ⟨s0, s1⟩ := hv; go_simp; try with_reducible rfl) ?_
          try simp only [Act.put, List.setIfInBounds_toArray, List.set_cons_zero, List.set_cons_succ]
          refine restS_take (i := 1) S0.out rfl (by kernel_rfl) (by kernel_rfl) (by kernel_rfl) (by rfl) (fun v hv => by obtain ⟨s0, s1⟩ := hv; go_simp; try with_reducible rfl) ?_
          try simp only [Act.put, List.setIfInBounds_toArray, List.set_cons_zero, List.set_cons_succ]
          refine restS_take (i := 2) S0.out rfl (by kernel_rfl) (by kernel_rfl) (by kernel_rfl) (by rfl) (fun v hv => by obtain ⟨s0, s1⟩ := hv; go_simp; try with_reducible rfl) ?_
          try simp only [Act.put, List.setIfInBounds_toArray, List.set_cons_zero, List.set_cons_succ]
          refine restS_take (i := 3) S0.out rfl (by kernel_rfl) (by kernel_rfl) (by kernel_rfl) (by rfl) (fun v hv => by obtain ⟨s0, s1⟩ := hv; go_simp; try with_reducible rfl) ?_
          try simp only [Act.put, List.setIfInBounds_toArray, List.set_cons_zero, List.set_cons_succ]
          refine restS_take (i := 5) S0.out rfl (by kernel_rfl) (by kernel_rfl) (by kernel_rfl) (by rfl) (fun v hv => by obtain ⟨s0, s1⟩ := hv; go_simp; try with_reducible rfl) ?_
          try simp only [Act.put, List.setIfInBounds_toArray, List.set_cons_zero, List.set_cons_succ]
          refine restS_take (i := 6) S0.out rfl (by kernel_rfl) (by kernel_rfl) (by kernel_rfl) (by rfl) (fun v hv => by obtain ⟨s0, s1⟩ := hv; go_simp; try with_reducible rfl) ?_
          try simp only [Act.put, List.setIfInBounds_toArray, List.set_cons_zero, List.set_cons_succ]
          refine restS_take (i := 7) S0.out rfl (by kernel_rfl) (by kernel_rfl) (by kernel_rfl) (by rfl) (fun v hv => by obtain ⟨s0, s1⟩ := hv; go_simp; try with_reducible rfl) ?_
          try simp only [Act.put, List.setIfInBounds_toArray, List.set_cons_zero, List.set_cons_succ]
          refine restS_take (i := 8) S0.out rfl (by kernel_rfl) (by kernel_rfl) (by kernel_rfl) (by rfl) (fun v hv => by obtain ⟨s0, s1⟩ := hv; go_simp; try with_reducible rfl) ?_
          try simp only [Act.put, List.setIfInBounds_toArray, List.set_cons_zero, List.set_cons_succ]
          refine restS_lone (i := 4) rfl (by kernel_rfl) (by rfl) (fun K hK => ?_)
          go_simp
          refine (HCt.out vd (Grown.refl _)).mono ?_
          rintro e v3 ⟨rfl, hg3⟩
          have G3 := Lib.hid hg3
          have S3 := Lib.hid (SX.out v3 hg3)
          clear hg3
          refine hK.out _ _ S3.out ?_
          clear hK K
          try simp only [Act.put, List.setIfInBounds_toArray, List.set_cons_zero, List.set_cons_succ]
          refine restS_take (i := 9) S3.out rfl (by kernel_rfl) (by kernel_rfl) (by kernel_rfl) (by rfl) (fun v hv => by obtain ⟨s0, s1⟩ := hv; go_simp; try with_reducible rfl) ?_
          try simp only [Act.put, List.setIfInBounds_toArray, List.set_cons_zero, List.set_cons_succ]
          refine restS_take (i := 10) S3.out rfl (by kernel_rfl) (by kernel_rfl) (by kernel_rfl) (by rfl) (fun v hv => by obtain ⟨s0, s1⟩ := hv; go_simp; try with_reducible rfl) ?_
          try simp only [Act.put, List.setIfInBounds_toArray, List.set_cons_zero, List.set_cons_succ]
          refine restS_take (i := 11) S3.out rfl (by kernel_rfl) (by kernel_rfl) (by kernel_rfl) (by rfl) (fun v hv => by obtain ⟨s0, s1⟩ := hv; go_simp; try with_reducible rfl) ?_
          try simp only [Act.put, List.setIfInBounds_toArray, List.set_cons_zero, List.set_cons_succ]
          refine restS_take (i := 12) S3.out rfl (by kernel_rfl) (by kernel_rfl) (by kernel_rfl) (by rfl) (fun v hv => by obtain ⟨s0, s1⟩ := hv; go_simp; try with_reducible rfl) ?_
          try simp only [Act.put, List.setIfInBounds_toArray, List.set_cons_zero, List.set_cons_succ]
          refine restS_take (i := 14) S3.out rfl (by kernel_rfl) (by kernel_rfl) (by kernel_rfl) (by rfl) (fun v hv => by obtain ⟨s0, s1⟩ := hv; go_simp; try with_reducible rfl) ?_
          try simp only [Act.put, List.setIfInBounds_toArray, List.set_cons_zero, List.set_cons_succ]
          refine restS_take (i := 15) S3.out rfl (by kernel_rfl) (by kernel_rfl) (by kernel_rfl) (by rfl) (fun v hv => by obtain ⟨s0, s1⟩ := hv; go_simp; try with_reducible rfl) ?_
          try simp only [Act.put, List.setIfInBounds_toArray, List.set_cons_zero, List.set_cons_succ]
          refine restS_take (i := 16) S3.out rfl (by kernel_rfl) (by kernel_rfl) (by kernel_rfl) (by rfl) (fun v hv => by obtain ⟨s0, s1⟩ := hv; go_simp; try with_reducible rfl) ?_
          try simp only [Act.put, List.setIfInBounds_toArray, List.set_cons_zero, List.set_cons_succ]
          refine restS_take (i := 17) S3.out rfl (by kernel_rfl) (by kernel_rfl) (by kernel_rfl) (by rfl) (fun v hv => by obtain ⟨s0, s1⟩ := hv; go_simp; try with_reducible rfl) ?_
          try simp only [Act.put, List.setIfInBounds_toArray, List.set_cons_zero, List.set_cons_succ]
          refine restS_take (i := 18) S3.out rfl (by kernel_rfl) (by kernel_rfl) (by kernel_rfl) (by rfl) (fun v hv => by obtain ⟨s0, s1⟩ := hv; go_simp; try with_reducible rfl) ?_
          try simp only [Act.put, List.setIfInBounds_toArray, List.set_cons_zero, List.set_cons_succ]
          refine restS_lone (i := 13) rfl (by kernel_rfl) (by rfl) (fun K hK => ?_)
          go_simp
          refine (HWt.out v3 G3.out).mono ?_
          rintro e v4 ⟨rfl, hg4⟩
          have S4 := Lib.hid (SX.out v4 (G3.out.trans hg4))
          have Z9 := Lib.hid (ZT.out.grow KK.out (G3.out.trans hg4))
          clear hg4
          refine hK.out _ _ S4.out ?_
          clear hK K
          try simp only [Act.put, List.setIfInBounds_toArray, List.set_cons_zero, List.set_cons_succ]
          refine restS_take (i := 19) S4.out rfl (by kernel_rfl) (by kernel_rfl) (by kernel_rfl) (by rfl) (fun v hv => by obtain ⟨s0, s1⟩ := hv; go_simp; try with_reducible rfl) ?_
          try simp only [Act.put, List.setIfInBounds_toArray, List.set_cons_zero, List.set_cons_succ]
          refine restS_take (i := 20) S4.out rfl (by kernel_rfl) (by kernel_rfl) (by kernel_rfl) (by rfl) (fun v hv => by obtain ⟨s0, s1⟩ := hv; go_simp; try with_reducible rfl) ?_
          try simp only [Act.put, List.setIfInBounds_toArray, List.set_cons_zero, List.set_cons_succ]
          refine restS_done (by kernel_rfl) ?_
          clear S0 S3 S4 SX HCt HWt
          go_wp2
          exact ⟨⟨i + 1, FP, FR, st1, by simp, by omega, HOk1.out, HL1.out, Z9.out⟩, by simp [intOf]; omega⟩
      · as_aux_lemma =>
          have ZA := Lib.hid (HZ.out.grow K (alloc_below wr (.cells #[.int .i64 3, .int .i64 at_, .int .i64 nn, .slice Ab nb cb, .slice Ak nk ck] 34)))
          have BA := Lib.hid (show Bs (wr.alloc (.cells #[.int .i64 3, .int .i64 at_, .int .i64 nn, .slice Ab nb cb, .slice Ak nk ck] 34)) F F2 wr.heap.size (acO 3 at_ nn Ab nb cb Ak nk ck) from Bs.new K HZ.out _)
          clear HZ
          obtain ⟨er, her⟩ : ∃ er, er = (dvRaise st).1 := ⟨_, rfl⟩
          obtain ⟨st1, hst1⟩ : ∃ st1, st1 = (dvRaise st).2 := ⟨_, rfl⟩
          have HOk1 := Lib.hid (show Ok st1 (i + 1) by rw [hst1]; exact (ok_raise HOk.out).up (by omega))
          have HL1 := Lib.hid (show st1.kept.length = N by rw [hst1]; rw [len_raise]; exact HL.out)
          have HP := Lib.hid (fun (v : World) (hv : Tw D w v G F st R F2 st) => K.raise v G F st i hv.p HOk.out)
          have HR := Lib.hid (fun (v : World) (FP : Nat → Prop) (hv : Tw D w v G FP st1 R F2 st) => rRaise hv.r HOk.out)
          rw [← her, ← hst1] at HP HR
          clear her hst1
          go_wp2_with fail
          refine (HP.out _ ZA.out).mono ?_
          rintro e v1 ⟨rfl, hd1⟩
          obtain ⟨FP, hz1, hb1⟩ := ZA.out.prog K hd1
          have Z1 := Lib.hid hz1
          have B1 := Lib.hid (hb1 _ _ BA.out)
          obtain ⟨s0, s1, s2, s3, s4⟩ := sa_of B1.out
          clear hd1 hz1 hb1 ZA BA
          go_wp2_with fail
          clear s0 s1 s2 s3 s4
          refine (HR.out v1 FP Z1.out).mono ?_
          rintro e vz ⟨rfl, hd2⟩
          obtain ⟨FR, hz2, hb2⟩ := Z1.out.ref K hd2
          have ZZ := Lib.hid hz2
          have BZ := Lib.hid (hb2 _ _ B1.out)
          obtain ⟨s0, s1, s2, s3, s4⟩ := sa_of BZ.out
          clear hd2 hz2 hb2 Z1 B1 HP HR
          go_wp2_with fail
          clear s0 s1 s2 s3 s4 BZ
          generalize hvd : vz.drew = vd
          have ZT := Lib.hid (show Tw D w vd G FP st1 R FR st1 by rw [← hvd]; exact ZZ.out.grow KK.out ((Below.refl _ vz).drew))
          obtain ⟨Aa, ca, hca, q1, q3⟩ := rd_cells ZT.out.r
          obtain ⟨pc, hpc⟩ : ∃ pc, pc = (st1).pend.length := ⟨_, rfl⟩
          obtain ⟨ct, hct⟩ : ∃ ct, ct = (st1).count := ⟨_, rfl⟩
          have HCt := Lib.hid (fun (v : World) (hv : Grown vd v) => K.count v G FP st1 (i + 1) (ZT.out.grow K hv).p HOk1.out)
          have HWt := Lib.hid (fun (v : World) (hv : Grown vd v) => K.waits v G FP st1 (i + 1) (ZT.out.grow K hv).p HOk1.out (by omega))
          rw [← hpc] at hca q1 HWt
          rw [← hct] at q3 HCt
          have SX := Lib.hid (show ∀ v : World, Grown vd v → v.cell? ⟨R, 1, none⟩ = some (.slice Aa pc ca) ∧ v.cell? ⟨R, 3, none⟩ = some (.int .i64 ct) from fun v hv => ⟨(hv.cell (p := ⟨R, 1, none⟩) (World.block_lt_of_cell? vd _ q1)).trans q1, (hv.cell (p := ⟨R, 3, none⟩) (World.block_lt_of_cell? vd _ q3)).trans q3⟩)
          have S0 := Lib.hid (SX.out vd (Grown.refl _))
          clear hpc hct q1 q3 ZZ
          refine restS_begin (fun v : World => v.cell? ⟨R, 1, none⟩ = some (.slice Aa pc ca) ∧ v.cell? ⟨R, 3, none⟩ = some (.int .i64 ct)) (by kernel_rfl) ?_
          rw [hvd]
          clear hvd
          refine restS_take (i := 0) S0.out rfl (by kernel_rfl) (by kernel_rfl) (by kernel_rfl) (by rfl) (fun v hv => by obtain ⟨s0, s1⟩ := hv; go_simp; try with_reducible rfl) ?_
          try simp only [Act.put, List.setIfInBounds_toArray, List.set_cons_zero, List.set_cons_succ]
          refine restS_take (i := 1) S0.out rfl (by kernel_rfl) (by kernel_rfl) (by kernel_rfl) (by rfl) (fun v hv => by obtain ⟨s0, s1⟩ := hv; go_simp; try with_reducible rfl) ?_
          try simp only [Act.put, List.setIfInBounds_toArray, List.set_cons_zero, List.set_cons_succ]
          refine restS_take (i := 2) S0.out rfl (by kernel_rfl) (by kernel_rfl) (by kernel_rfl) (by rfl) (fun v hv => by obtain ⟨s0, s1⟩ := hv; go_simp; try with_reducible rfl) ?_
          try simp only [Act.put, List.setIfInBounds_toArray, List.set_cons_zero, List.set_cons_succ]
          refine restS_take (i := 3) S0.out rfl (by kernel_rfl) (by kernel_rfl) (by kernel_rfl) (by rfl) (fun v hv => by obtain ⟨s0, s1⟩ := hv; go_simp; try with_reducible rfl) ?_
          try simp only [Act.put, List.setIfInBounds_toArray, List.set_cons_zero, List.set_cons_succ]
          refine restS_take (i := 5) S0.out rfl (by kernel_rfl) (by kernel_rfl) (by kernel_rfl) (by rfl) (fun v hv => by obtain ⟨s0, s1⟩ := hv; go_simp; try with_reducible rfl) ?_
          try simp only [Act.put, List.setIfInBounds_toArray, List.set_cons_zero, List.set_cons_succ]
          refine restS_take (i := 6) S0.out rfl (by kernel_rfl) (by kernel_rfl) (by kernel_rfl) (by rfl) (fun v hv => by obtain ⟨s0, s1⟩ := hv; go_simp; try with_reducible rfl) ?_
          try simp only [Act.put, List.setIfInBounds_toArray, List.set_cons_zero, List.set_cons_succ]
          refine restS_take (i := 7) S0.out rfl (by kernel_rfl) (by kernel_rfl) (by kernel_rfl) (by rfl) (fun v hv => by obtain ⟨s0, s1⟩ := hv; go_simp; try with_reducible rfl) ?_
          try simp only [Act.put, List.setIfInBounds_toArray, List.set_cons_zero, List.set_cons_succ]
          refine restS_take (i := 8) S0.out rfl (by kernel_rfl) (by kernel_rfl) (by kernel_rfl) (by rfl) (fun v hv => by obtain ⟨s0, s1⟩ := hv; go_simp; try with_reducible rfl) ?_
          try simp only [Act.put, List.setIfInBounds_toArray, List.set_cons_zero, List.set_cons_succ]
          refine restS_lone (i := 4) rfl (by kernel_rfl) (by rfl) (fun K hK => ?_)
          go_simp
          refine (HCt.out vd (Grown.refl _)).mono ?_
          rintro e v3 ⟨rfl, hg3⟩
          have G3 := Lib.hid hg3
          have S3 := Lib.hid (SX.out v3 hg3)
          clear hg3
          refine hK.out _ _ S3.out ?_
          clear hK K
          try simp only [Act.put, List.setIfInBounds_toArray, List.set_cons_zero, List.set_cons_succ]
          refine restS_take (i := 9) S3.out rfl (by kernel_rfl) (by kernel_rfl) (by kernel_rfl) (by rfl) (fun v hv => by obtain ⟨s0, s1⟩ := hv; go_simp; try with_reducible rfl) ?_
          try simp only [Act.put, List.setIfInBounds_toArray, List.set_cons_zero, List.set_cons_succ]
          refine restS_take (i := 10) S3.out rfl (by kernel_rfl) (by kernel_rfl) (by kernel_rfl) (by rfl) (fun v hv => by obtain ⟨s0, s1⟩ := hv; go_simp; try with_reducible rfl) ?_
          try simp only [Act.put, List.setIfInBounds_toArray, List.set_cons_zero, List.set_cons_succ]
          refine restS_take (i := 11) S3.out rfl (by kernel_rfl) (by kernel_rfl) (by kernel_rfl) (by rfl) (fun v hv => by obtain ⟨s0, s1⟩ := hv; go_simp; try with_reducible rfl) ?_
          try simp only [Act.put, List.setIfInBounds_toArray, List.set_cons_zero, List.set_cons_succ]
          refine restS_take (i := 12) S3.out rfl (by kernel_rfl) (by kernel_rfl) (by kernel_rfl) (by rfl) (fun v hv => by obtain ⟨s0, s1⟩ := hv; go_simp; try with_reducible rfl) ?_
          try simp only [Act.put, List.setIfInBounds_toArray, List.set_cons_zero, List.set_cons_succ]
          refine restS_take (i := 14) S3.out rfl (by kernel_rfl) (by kernel_rfl) (by kernel_rfl) (by rfl) (fun v hv => by obtain ⟨s0, s1⟩ := hv; go_simp; try with_reducible rfl) ?_
          try simp only [Act.put, List.setIfInBounds_toArray, List.set_cons_zero, List.set_cons_succ]
          refine restS_take (i := 15) S3.out rfl (by kernel_rfl) (by kernel_rfl) (by kernel_rfl) (by rfl) (fun v hv => by obtain ⟨s0, s1⟩ := hv; go_simp; try with_reducible rfl) ?_
          try simp only [Act.put, List.setIfInBounds_toArray, List.set_cons_zero, List.set_cons_succ]
          refine restS_take (i := 16) S3.out rfl (by kernel_rfl) (by kernel_rfl) (by kernel_rfl) (by rfl) (fun v hv => by obtain ⟨s0, s1⟩ := hv; go_simp; try with_reducible rfl) ?_
          try simp only [Act.put, List.setIfInBounds_toArray, List.set_cons_zero, List.set_cons_succ]
          refine restS_take (i := 17) S3.out rfl (by kernel_rfl) (by kernel_rfl) (by kernel_rfl) (by rfl) (fun v hv => by obtain ⟨s0, s1⟩ := hv; go_simp; try with_reducible rfl) ?_
          try simp only [Act.put, List.setIfInBounds_toArray, List.set_cons_zero, List.set_cons_succ]
          refine restS_take (i := 18) S3.out rfl (by kernel_rfl) (by kernel_rfl) (by kernel_rfl) (by rfl) (fun v hv => by obtain ⟨s0, s1⟩ := hv; go_simp; try with_reducible rfl) ?_
          try simp only [Act.put, List.setIfInBounds_toArray, List.set_cons_zero, List.set_cons_succ]
          refine restS_lone (i := 13) rfl (by kernel_rfl) (by rfl) (fun K hK => ?_)
          go_simp
          refine (HWt.out v3 G3.out).mono ?_
          rintro e v4 ⟨rfl, hg4⟩
          have S4 := Lib.hid (SX.out v4 (G3.out.trans hg4))
          have Z9 := Lib.hid (ZT.out.grow KK.out (G3.out.trans hg4))
          clear hg4
          refine hK.out _ _ S4.out ?_
          clear hK K
          try simp only [Act.put, List.setIfInBounds_toArray, List.set_cons_zero, List.set_cons_succ]
          refine restS_take (i := 19) S4.out rfl (by kernel_rfl) (by kernel_rfl) (by kernel_rfl) (by rfl) (fun v hv => by obtain ⟨s0, s1⟩ := hv; go_simp; try with_reducible rfl) ?_
          try simp only [Act.put, List.setIfInBounds_toArray, List.set_cons_zero, List.set_cons_succ]
          refine restS_take (i := 20) S4.out rfl (by kernel_rfl) (by kernel_rfl) (by kernel_rfl) (by rfl) (fun v hv => by obtain ⟨s0, s1⟩ := hv; go_simp; try with_reducible rfl) ?_
          try simp only [Act.put, List.setIfInBounds_toArray, List.set_cons_zero, List.set_cons_succ]
          refine restS_done (by kernel_rfl) ?_
          clear S0 S3 S4 SX HCt HWt
          go_wp2
          exact ⟨⟨i + 1, FP, FR, st1, by simp, by omega, HOk1.out, HL1.out, Z9.out⟩, by simp [intOf]; omega⟩
      · as_aux_lemma =>
          have ZA := Lib.hid (HZ.out.grow K (alloc_below wr (.cells #[.int .i64 4, .int .i64 at_, .int .i64 nn, .slice Ab nb cb, .slice Ak nk ck] 34)))
          have BA := Lib.hid (show Bs (wr.alloc (.cells #[.int .i64 4, .int .i64 at_, .int .i64 nn, .slice Ab nb cb, .slice Ak nk ck] 34)) F F2 wr.heap.size (acO 4 at_ nn Ab nb cb Ak nk ck) from Bs.new K HZ.out _)
          clear HZ
          obtain ⟨st1, hst1⟩ : ∃ st1, st1 = dvWear st nn := ⟨_, rfl⟩
          have HOk1 := Lib.hid (show Ok st1 (i + 1) by rw [hst1]; exact (ok_wear HOk.out nn).up (by omega))
          have HL1 := Lib.hid (show st1.kept.length = N by rw [hst1]; exact HL.out)
          have HP := Lib.hid (fun (v : World) (hv : Tw D w v G F st R F2 st) => K.wear v G F st i nn hv.p HOk.out hn1 hn2)
          have HR := Lib.hid (fun (v : World) (FP : Nat → Prop) (hv : Tw D w v G FP st1 R F2 st) => rWear hv.r nn)
          rw [← hst1] at HP HR
          clear hst1
          go_wp2_with fail
          refine (HP.out _ ZA.out).mono ?_
          rintro e v1 ⟨rfl, hd1⟩
          obtain ⟨FP, hz1, hb1⟩ := ZA.out.prog K hd1
          have Z1 := Lib.hid hz1
          have B1 := Lib.hid (hb1 _ _ BA.out)
          obtain ⟨s0, s1, s2, s3, s4⟩ := sa_of B1.out
          clear hd1 hz1 hb1 ZA BA
          go_wp2_with fail
          clear s0 s1 s2 s3 s4
          refine (HR.out v1 FP Z1.out).mono ?_
          rintro e vz ⟨rfl, hd2⟩
          obtain ⟨FR, hz2, hb2⟩ := Z1.out.ref K hd2
          have ZZ := Lib.hid hz2
          have BZ := Lib.hid (hb2 _ _ B1.out)
          obtain ⟨s0, s1, s2, s3, s4⟩ := sa_of BZ.out
          clear hd2 hz2 hb2 Z1 B1 HP HR
          go_wp2_with fail
          clear s0 s1 s2 s3 s4 BZ
          generalize hvd : vz.drew = vd
          have ZT := Lib.hid (show Tw D w vd G FP st1 R FR st1 by rw [← hvd]; exact ZZ.out.grow KK.out ((Below.refl _ vz).drew))
          obtain ⟨Aa, ca, hca, q1, q3⟩ := rd_cells ZT.out.r
          obtain ⟨pc, hpc⟩ : ∃ pc, pc = (st1).pend.length := ⟨_, rfl⟩
          obtain ⟨ct, hct⟩ : ∃ ct, ct = (st1).count := ⟨_, rfl⟩
          have HCt := Lib.hid (fun (v : World) (hv : Grown vd v) => K.count v G FP st1 (i + 1) (ZT.out.grow K hv).p HOk1.out)
          have HWt := Lib.hid (fun (v : World) (hv : Grown vd v) => K.waits v G FP st1 (i + 1) (ZT.out.grow K hv).p HOk1.out (by omega))
          rw [← hpc] at hca q1 HWt
          rw [← hct] at q3 HCt
          have SX := Lib.hid (show ∀ v : World, Grown vd v → v.cell? ⟨R, 1, none⟩ = some (.slice Aa pc ca) ∧ v.cell? ⟨R, 3, none⟩ = some (.int .i64 ct) from fun v hv => ⟨(hv.cell (p := ⟨R, 1, none⟩) (World.block_lt_of_cell? vd _ q1)).trans q1, (hv.cell (p := ⟨R, 3, none⟩) (World.block_lt_of_cell? vd _ q3)).trans q3⟩)
          have S0 := Lib.hid (SX.out vd (Grown.refl _))
          clear hpc hct q1 q3 ZZ
          refine restS_begin (fun v : World => v.cell? ⟨R, 1, none⟩ = some (.slice Aa pc ca) ∧ v.cell? ⟨R, 3, none⟩ = some (.int .i64 ct)) (by kernel_rfl) ?_
          rw [hvd]
          clear hvd
          refine restS_take (i := 0) S0.out rfl (by kernel_rfl) (by kernel_rfl) (by kernel_rfl) (by rfl) (fun v hv => by obtain ⟨s0, s1⟩ := hv; go_simp; try with_reducible rfl) ?_
          try simp only [Act.put, List.setIfInBounds_toArray, List.set_cons_zero, List.set_cons_succ]
          refine restS_take (i := 1) S0.out rfl (by kernel_rfl) (by kernel_rfl) (by kernel_rfl) (by rfl) (fun v hv => by obtain ⟨s0, s1⟩ := hv; go_simp; try with_reducible rfl) ?_
          try simp only [Act.put, List.setIfInBounds_toArray, List.set_cons_zero, List.set_cons_succ]
          refine restS_take (i := 2) S0.out rfl (by kernel_rfl) (by kernel_rfl) (by kernel_rfl) (by rfl) (fun v hv => by obtain ⟨s0, s1⟩ := hv; go_simp; try with_reducible rfl) ?_
          try simp only [Act.put, List.setIfInBounds_toArray, List.set_cons_zero, List.set_cons_succ]
          refine restS_take (i := 3) S0.out rfl (by kernel_rfl) (by kernel_rfl) (by kernel_rfl) (by rfl) (fun v hv => by obtain ⟨s0, s1⟩ := hv; go_simp; try with_reducible rfl) ?_
          try simp only [Act.put, List.setIfInBounds_toArray, List.set_cons_zero, List.set_cons_succ]
          refine restS_take (i := 5) S0.out rfl (by kernel_rfl) (by kernel_rfl) (by kernel_rfl) (by rfl) (fun v hv => by obtain ⟨s0, s1⟩ := hv; go_simp; try with_reducible rfl) ?_
          try simp only [Act.put, List.setIfInBounds_toArray, List.set_cons_zero, List.set_cons_succ]
          refine restS_take (i := 6) S0.out rfl (by kernel_rfl) (by kernel_rfl) (by kernel_rfl) (by rfl) (fun v hv => by obtain ⟨s0, s1⟩ := hv; go_simp; try with_reducible rfl) ?_
          try simp only [Act.put, List.setIfInBounds_toArray, List.set_cons_zero, List.set_cons_succ]
          refine restS_take (i := 7) S0.out rfl (by kernel_rfl) (by kernel_rfl) (by kernel_rfl) (by rfl) (fun v hv => by obtain ⟨s0, s1⟩ := hv; go_simp; try with_reducible rfl) ?_
          try simp only [Act.put, List.setIfInBounds_toArray, List.set_cons_zero, List.set_cons_succ]
          refine restS_take (i := 8) S0.out rfl (by kernel_rfl) (by kernel_rfl) (by kernel_rfl) (by rfl) (fun v hv => by obtain ⟨s0, s1⟩ := hv; go_simp; try with_reducible rfl) ?_
          try simp only [Act.put, List.setIfInBounds_toArray, List.set_cons_zero, List.set_cons_succ]
          refine restS_lone (i := 4) rfl (by kernel_rfl) (by rfl) (fun K hK => ?_)
          go_simp
          refine (HCt.out vd (Grown.refl _)).mono ?_
          rintro e v3 ⟨rfl, hg3⟩
          have G3 := Lib.hid hg3
          have S3 := Lib.hid (SX.out v3 hg3)
          clear hg3
          refine hK.out _ _ S3.out ?_
          clear hK K
          try simp only [Act.put, List.setIfInBounds_toArray, List.set_cons_zero, List.set_cons_succ]
          refine restS_take (i := 9) S3.out rfl (by kernel_rfl) (by kernel_rfl) (by kernel_rfl) (by rfl) (fun v hv => by obtain ⟨s0, s1⟩ := hv; go_simp; try with_reducible rfl) ?_
          try simp only [Act.put, List.setIfInBounds_toArray, List.set_cons_zero, List.set_cons_succ]
          refine restS_take (i := 10) S3.out rfl (by kernel_rfl) (by kernel_rfl) (by kernel_rfl) (by rfl) (fun v hv => by obtain ⟨s0, s1⟩ := hv; go_simp; try with_reducible rfl) ?_
          try simp only [Act.put, List.setIfInBounds_toArray, List.set_cons_zero, List.set_cons_succ]
          refine restS_take (i := 11) S3.out rfl (by kernel_rfl) (by kernel_rfl) (by kernel_rfl) (by rfl) (fun v hv => by obtain ⟨s0, s1⟩ := hv; go_simp; try with_reducible rfl) ?_
          try simp only [Act.put, List.setIfInBounds_toArray, List.set_cons_zero, List.set_cons_succ]
          refine restS_take (i := 12) S3.out rfl (by kernel_rfl) (by kernel_rfl) (by kernel_rfl) (by rfl) (fun v hv => by obtain ⟨s0, s1⟩ := hv; go_simp; try with_reducible rfl) ?_
          try simp only [Act.put, List.setIfInBounds_toArray, List.set_cons_zero, List.set_cons_succ]
          refine restS_take (i := 14) S3.out rfl (by kernel_rfl) (by kernel_rfl) (by kernel_rfl) (by rfl) (fun v hv => by obtain ⟨s0, s1⟩ := hv; go_simp; try with_reducible rfl) ?_
          try simp only [Act.put, List.setIfInBounds_toArray, List.set_cons_zero, List.set_cons_succ]
          refine restS_take (i := 15) S3.out rfl (by kernel_rfl) (by kernel_rfl) (by kernel_rfl) (by rfl) (fun v hv => by obtain ⟨s0, s1⟩ := hv; go_simp; try with_reducible rfl) ?_
          try simp only [Act.put, List.setIfInBounds_toArray, List.set_cons_zero, List.set_cons_succ]
          refine restS_take (i := 16) S3.out rfl (by kernel_rfl) (by kernel_rfl) (by kernel_rfl) (by rfl) (fun v hv => by obtain ⟨s0, s1⟩ := hv; go_simp; try with_reducible rfl) ?_
          try simp only [Act.put, List.setIfInBounds_toArray, List.set_cons_zero, List.set_cons_succ]
          refine restS_take (i := 17) S3.out rfl (by kernel_rfl) (by kernel_rfl) (by kernel_rfl) (by rfl) (fun v hv => by obtain ⟨s0, s1⟩ := hv; go_simp; try with_reducible rfl) ?_
          try simp only [Act.put, List.setIfInBounds_toArray, List.set_cons_zero, List.set_cons_succ]
          refine restS_take (i := 18) S3.out rfl (by kernel_rfl) (by kernel_rfl) (by kernel_rfl) (by rfl) (fun v hv => by obtain ⟨s0, s1⟩ := hv; go_simp; try with_reducible rfl) ?_
          try simp only [Act.put, List.setIfInBounds_toArray, List.set_cons_zero, List.set_cons_succ]
          refine restS_lone (i := 13) rfl (by kernel_rfl) (by rfl) (fun K hK => ?_)
          go_simp
          refine (HWt.out v3 G3.out).mono ?_
          rintro e v4 ⟨rfl, hg4⟩
          have S4 := Lib.hid (SX.out v4 (G3.out.trans hg4))
          have Z9 := Lib.hid (ZT.out.grow KK.out (G3.out.trans hg4))
          clear hg4
          refine hK.out _ _ S4.out ?_
          clear hK K
          try simp only [Act.put, List.setIfInBounds_toArray, List.set_cons_zero, List.set_cons_succ]
          refine restS_take (i := 19) S4.out rfl (by kernel_rfl) (by kernel_rfl) (by kernel_rfl) (by rfl) (fun v hv => by obtain ⟨s0, s1⟩ := hv; go_simp; try with_reducible rfl) ?_
          try simp only [Act.put, List.setIfInBounds_toArray, List.set_cons_zero, List.set_cons_succ]
          refine restS_take (i := 20) S4.out rfl (by kernel_rfl) (by kernel_rfl) (by kernel_rfl) (by rfl) (fun v hv => by obtain ⟨s0, s1⟩ := hv; go_simp; try with_reducible rfl) ?_
          try simp only [Act.put, List.setIfInBounds_toArray, List.set_cons_zero, List.set_cons_succ]
          refine restS_done (by kernel_rfl) ?_
          clear S0 S3 S4 SX HCt HWt
          go_wp2
          exact ⟨⟨i + 1, FP, FR, st1, by simp, by omega, HOk1.out, HL1.out, Z9.out⟩, by simp [intOf]; omega⟩
      · as_aux_lemma =>
          have ZA := Lib.hid (HZ.out.grow K (alloc_below wr (.cells #[.int .i64 5, .int .i64 at_, .int .i64 nn, .slice Ab nb cb, .slice Ak nk ck] 34)))
          have BA := Lib.hid (show Bs (wr.alloc (.cells #[.int .i64 5, .int .i64 at_, .int .i64 nn, .slice Ab nb cb, .slice Ak nk ck] 34)) F F2 wr.heap.size (acO 5 at_ nn Ab nb cb Ak nk ck) from Bs.new K HZ.out _)
          clear HZ
          obtain ⟨st1, hst1⟩ : ∃ st1, st1 = dvLimit st nn := ⟨_, rfl⟩
          have HOk1 := Lib.hid (show Ok st1 (i + 1) by rw [hst1]; exact (ok_limit HOk.out nn hn2).up (by omega))
          have HL1 := Lib.hid (show st1.kept.length = N by rw [hst1]; exact HL.out)
          have HP := Lib.hid (fun (v : World) (hv : Tw D w v G F st R F2 st) => K.limit v G F st i nn hv.p HOk.out hn1 hn2)
          have HR := Lib.hid (fun (v : World) (FP : Nat → Prop) (hv : Tw D w v G FP st1 R F2 st) => rLimit hv.r nn)
          rw [← hst1] at HP HR
          clear hst1
          go_wp2_with fail
          refine (HP.out _ ZA.out).mono ?_
          rintro e v1 ⟨rfl, hd1⟩
          obtain ⟨FP, hz1, hb1⟩ := ZA.out.prog K hd1
          have Z1 := Lib.hid hz1
          have B1 := Lib.hid (hb1 _ _ BA.out)
          obtain ⟨s0, s1, s2, s3, s4⟩ := sa_of B1.out
          clear hd1 hz1 hb1 ZA BA
          go_wp2_with fail
          clear s0 s1 s2 s3 s4
          refine (HR.out v1 FP Z1.out).mono ?_
          rintro e vz ⟨rfl, hd2⟩
          obtain ⟨FR, hz2, hb2⟩ := Z1.out.ref K hd2
          have ZZ := Lib.hid hz2
          have BZ := Lib.hid (hb2 _ _ B1.out)
          obtain ⟨s0, s1, s2, s3, s4⟩ := sa_of BZ.out
          clear hd2 hz2 hb2 Z1 B1 HP HR
          go_wp2_with fail
          clear s0 s1 s2 s3 s4 BZ
          generalize hvd : vz.drew = vd
          have ZT := Lib.hid (show Tw D w vd G FP st1 R FR st1 by rw [← hvd]; exact ZZ.out.grow KK.out ((Below.refl _ vz).drew))
          obtain ⟨Aa, ca, hca, q1, q3⟩ := rd_cells ZT.out.r
          obtain ⟨pc, hpc⟩ : ∃ pc, pc = (st1).pend.length := ⟨_, rfl⟩
          obtain ⟨ct, hct⟩ : ∃ ct, ct = (st1).count := ⟨_, rfl⟩
          have HCt := Lib.hid (fun (v : World) (hv : Grown vd v) => K.count v G FP st1 (i + 1) (ZT.out.grow K hv).p HOk1.out)
          have HWt := Lib.hid (fun (v : World) (hv : Grown vd v) => K.waits v G FP st1 (i + 1) (ZT.out.grow K hv).p HOk1.out (by omega))
          rw [← hpc] at hca q1 HWt
          rw [← hct] at q3 HCt
          have SX := Lib.hid (show ∀ v : World, Grown vd v → v.cell? ⟨R, 1, none⟩ = some (.slice Aa pc ca) ∧ v.cell? ⟨R, 3, none⟩ = some (.int .i64 ct) from fun v hv => ⟨(hv.cell (p := ⟨R, 1, none⟩) (World.block_lt_of_cell? vd _ q1)).trans q1, (hv.cell (p := ⟨R, 3, none⟩) (World.block_lt_of_cell? vd _ q3)).trans q3⟩)
          have S0 := Lib.hid (SX.out vd (Grown.refl _))
          clear hpc hct q1 q3 ZZ
          refine restS_begin (fun v : World => v.cell? ⟨R, 1, none⟩ = some (.slice Aa pc ca) ∧ v.cell? ⟨R, 3, none⟩ = some (.int .i64 ct)) (by kernel_rfl) ?_
          rw [hvd]
          clear hvd
          refine restS_take (i := 0) S0.out rfl (by kernel_rfl) (by kernel_rfl) (by kernel_rfl) (by rfl) (fun v hv => by obtain ⟨s0, s1⟩ := hv; go_simp; try with_reducible rfl) ?_
          try simp only [Act.put, List.setIfInBounds_toArray, List.set_cons_zero, List.set_cons_succ]
          refine restS_take (i := 1) S0.out rfl (by kernel_rfl) (by kernel_rfl) (by kernel_rfl) (by rfl) (fun v hv => by obtain ⟨s0, s1⟩ := hv; go_simp; try with_reducible rfl) ?_
          try simp only [Act.put, List.setIfInBounds_toArray, List.set_cons_zero, List.set_cons_succ]
          refine restS_take (i := 2) S0.out rfl (by kernel_rfl) (by kernel_rfl) (by kernel_rfl) (by rfl) (fun v hv => by obtain ⟨s0, s1⟩ := hv; go_simp; try with_reducible rfl) ?_
          try simp only [Act.put, List.setIfInBounds_toArray, List.set_cons_zero, List.set_cons_succ]
          refine restS_take (i := 3) S0.out rfl (by kernel_rfl) (by kernel_rfl) (by kernel_rfl) (by rfl) (fun v hv => by obtain ⟨s0, s1⟩ := hv; go_simp; try with_reducible rfl) ?_
          try simp only [Act.put, List.setIfInBounds_toArray, List.set_cons_zero, List.set_cons_succ]
          refine restS_take (i := 5) S0.out rfl (by kernel_rfl) (by kernel_rfl) (by kernel_rfl) (by rfl) (fun v hv => by obtain ⟨s0, s1⟩ := hv; go_simp; try with_reducible rfl) ?_
          try simp only [Act.put, List.setIfInBounds_toArray, List.set_cons_zero, List.set_cons_succ]
          refine restS_take (i := 6) S0.out rfl (by kernel_rfl) (by kernel_rfl) (by kernel_rfl) (by rfl) (fun v hv => by obtain ⟨s0, s1⟩ := hv; go_simp; try with_reducible rfl) ?_
          try simp only [Act.put, List.setIfInBounds_toArray, List.set_cons_zero, List.set_cons_succ]
          refine restS_take (i := 7) S0.out rfl (by kernel_rfl) (by kernel_rfl) (by kernel_rfl) (by rfl) (fun v hv => by obtain ⟨s0, s1⟩ := hv; go_simp; try with_reducible rfl) ?_
          try simp only [Act.put, List.setIfInBounds_toArray, List.set_cons_zero, List.set_cons_succ]
          refine restS_take (i := 8) S0.out rfl (by kernel_rfl) (by kernel_rfl) (by kernel_rfl) (by rfl) (fun v hv => by obtain ⟨s0, s1⟩ := hv; go_simp; try with_reducible rfl) ?_
          try simp only [Act.put, List.setIfInBounds_toArray, List.set_cons_zero, List.set_cons_succ]
          refine restS_lone (i := 4) rfl (by kernel_rfl) (by rfl) (fun K hK => ?_)
          go_simp
          refine (HCt.out vd (Grown.refl _)).mono ?_
          rintro e v3 ⟨rfl, hg3⟩
          have G3 := Lib.hid hg3
          have S3 := Lib.hid (SX.out v3 hg3)
          clear hg3
          refine hK.out _ _ S3.out ?_
          clear hK K
          try simp only [Act.put, List.setIfInBounds_toArray, List.set_cons_zero, List.set_cons_succ]
          refine restS_take (i := 9) S3.out rfl (by kernel_rfl) (by kernel_rfl) (by kernel_rfl) (by rfl) (fun v hv => by obtain ⟨s0, s1⟩ := hv; go_simp; try with_reducible rfl) ?_
          try simp only [Act.put, List.setIfInBounds_toArray, List.set_cons_zero, List.set_cons_succ]
          refine restS_take (i := 10) S3.out rfl (by kernel_rfl) (by kernel_rfl) (by kernel_rfl) (by rfl) (fun v hv => by obtain ⟨s0, s1⟩ := hv; go_simp; try with_reducible rfl) ?_
          try simp only [Act.put, List.setIfInBounds_toArray, List.set_cons_zero, List.set_cons_succ]
          refine restS_take (i := 11) S3.out rfl (by kernel_rfl) (by kernel_rfl) (by kernel_rfl) (by rfl) (fun v hv => by obtain ⟨s0, s1⟩ := hv; go_simp; try with_reducible rfl) ?_
          try simp only [Act.put, List.setIfInBounds_toArray, List.set_cons_zero, List.set_cons_succ]
          refine restS_take (i := 12) S3.out rfl (by kernel_rfl) (by kernel_rfl) (by kernel_rfl) (by rfl) (fun v hv => by obtain ⟨s0, s1⟩ := hv; go_simp; try with_reducible rfl) ?_
          try simp only [Act.put, List.setIfInBounds_toArray, List.set_cons_zero, List.set_cons_succ]
          refine restS_take (i := 14) S3.out rfl (by kernel_rfl) (by kernel_rfl) (by kernel_rfl) (by rfl) (fun v hv => by obtain ⟨s0, s1⟩ := hv; go_simp; try with_reducible rfl) ?_
          try simp only [Act.put, List.setIfInBounds_toArray, List.set_cons_zero, List.set_cons_succ]
          refine restS_take (i := 15) S3.out rfl (by kernel_rfl) (by kernel_rfl) (by kernel_rfl) (by rfl) (fun v hv => by obtain ⟨s0, s1⟩ := hv; go_simp; try with_reducible rfl) ?_
          try simp only [Act.put, List.setIfInBounds_toArray, List.set_cons_zero, List.set_cons_succ]
          refine restS_take (i := 16) S3.out rfl (by kernel_rfl) (by kernel_rfl) (by kernel_rfl) (by rfl) (fun v hv => by obtain ⟨s0, s1⟩ := hv; go_simp; try with_reducible rfl) ?_
          try simp only [Act.put, List.setIfInBounds_toArray, List.set_cons_zero, List.set_cons_succ]
          refine restS_take (i := 17) S3.out rfl (by kernel_rfl) (by kernel_rfl) (by kernel_rfl) (by rfl) (fun v hv => by obtain ⟨s0, s1⟩ := hv; go_simp; try with_reducible rfl) ?_
          try simp only [Act.put, List.setIfInBounds_toArray, List.set_cons_zero, List.set_cons_succ]
          refine restS_take (i := 18) S3.out rfl (by kernel_rfl) (by kernel_rfl) (by kernel_rfl) (by rfl) (fun v hv => by obtain ⟨s0, s1⟩ := hv; go_simp; try with_reducible rfl) ?_
          try simp only [Act.put, List.setIfInBounds_toArray, List.set_cons_zero, List.set_cons_succ]
          refine restS_lone (i := 13) rfl (by kernel_rfl) (by rfl) (fun K hK => ?_)
          go_simp
          refine (HWt.out v3 G3.out).mono ?_
          rintro e v4 ⟨rfl, hg4⟩
          have S4 := Lib.hid (SX.out v4 (G3.out.trans hg4))
          have Z9 := Lib.hid (ZT.out.grow KK.out (G3.out.trans hg4))
          clear hg4
          refine hK.out _ _ S4.out ?_
          clear hK K
          try simp only [Act.put, List.setIfInBounds_toArray, List.set_cons_zero, List.set_cons_succ]
          refine restS_take (i := 19) S4.out rfl (by kernel_rfl) (by kernel_rfl) (by kernel_rfl) (by rfl) (fun v hv => by obtain ⟨s0, s1⟩ := hv; go_simp; try with_reducible rfl) ?_
          try simp only [Act.put, List.setIfInBounds_toArray, List.set_cons_zero, List.set_cons_succ]
          refine restS_take (i := 20) S4.out rfl (by kernel_rfl) (by kernel_rfl) (by kernel_rfl) (by rfl) (fun v hv => by obtain ⟨s0, s1⟩ := hv; go_simp; try with_reducible rfl) ?_
          try simp only [Act.put, List.setIfInBounds_toArray, List.set_cons_zero, List.set_cons_succ]
          refine restS_done (by kernel_rfl) ?_
          clear S0 S3 S4 SX HCt HWt
          go_wp2
          exact ⟨⟨i + 1, FP, FR, st1, by simp, by omega, HOk1.out, HL1.out, Z9.out⟩, by simp [intOf]; omega⟩
      · as_aux_lemma =>
          have ZA := Lib.hid (HZ.out.grow K (alloc_below wr (.cells #[.int .i64 6, .int .i64 at_, .int .i64 nn, .slice Ab nb cb, .slice Ak nk ck] 34)))
          have BA := Lib.hid (show Bs (wr.alloc (.cells #[.int .i64 6, .int .i64 at_, .int .i64 nn, .slice Ab nb cb, .slice Ak nk ck] 34)) F F2 wr.heap.size (acO 6 at_ nn Ab nb cb Ak nk ck) from Bs.new K HZ.out _)
          clear HZ
          obtain ⟨er, her⟩ : ∃ er, er = (dvCrash st kp).1 := ⟨_, rfl⟩
          obtain ⟨st1, hst1⟩ : ∃ st1, st1 = (dvCrash st kp).2 := ⟨_, rfl⟩
          have HOk1 := Lib.hid (show Ok st1 (i + 1) by rw [hst1]; exact (ok_crash HOk.out kp).up (by omega))
          have HL1 := Lib.hid (show st1.kept.length = N by rw [hst1, len_crash]; exact HL.out)
          have HP := Lib.hid (fun (v : World) (hv : Tw D w v G F st R F2 st) => K.crash v G F st i Ak nk ck kp hv.p HOk.out (show i ≤ 1000 by omega) (show st.kept.length ≤ 100 by have := HL.out; omega) (rdN_grow HK3.out hv.gr) HK1.out hk2 (by omega) (fun x hx hne hf => by have h1 := rdN_lt HK3.out hne x hx; have h2 := hv.pb _ hf; omega))
          have HR := Lib.hid (fun (v : World) (FP : Nat → Prop) (hv : Tw D w v G FP st1 R F2 st) => rCrash hv.r HOk.out (show i ≤ 1000 by omega) (show st.kept.length ≤ 100 by have := HL.out; omega) Ak nk ck kp (rdN_grow HK3.out hv.gr) HK1.out (by omega) (fun x hx hne hf => by have h1 := rdN_lt HK3.out hne x hx; have h2 := (rd_foot hv.r _ hf).1; omega))
          rw [← her, ← hst1] at HP HR
          clear her hst1
          go_wp2_with fail
          obtain ⟨a, ha⟩ : ∃ a, a = wr.heap.size := ⟨_, rfl⟩
          rw [← ha] at BA ⊢
          clear ha d0 d1 d2 d3 d4
          generalize wr.alloc _ = va at ZA BA ⊢
          generalize hvd : va.drew = vd
          have ZD := Lib.hid (show Tw D w vd G F st R F2 st by rw [← hvd]; exact ZA.out.grow K ((Below.refl _ va).drew))
          have BD := Lib.hid (show Bs vd F F2 a (acO 6 at_ nn Ab nb cb Ak nk ck) by rw [← hvd]; exact BA.out.grow ((Below.refl _ va).drew))
          clear ZA BA
          refine restS_begin (SA a 6 at_ nn Ab nb cb Ak nk ck) (by kernel_rfl) ?_
          rw [hvd]
          clear hvd
          refine restS_take (i := 0) (sa_of BD.out) rfl (by kernel_rfl) (by kernel_rfl) (by kernel_rfl) (by rfl) (fun v hv => by obtain ⟨s0, s1, s2, s3, s4⟩ := hv; go_simp; try with_reducible rfl) ?_
          try simp only [Act.put, List.setIfInBounds_toArray, List.set_cons_zero, List.set_cons_succ]
          refine restS_take (i := 1) (sa_of BD.out) rfl (by kernel_rfl) (by kernel_rfl) (by kernel_rfl) (by rfl) (fun v hv => by obtain ⟨s0, s1, s2, s3, s4⟩ := hv; go_simp; try with_reducible rfl) ?_
          try simp only [Act.put, List.setIfInBounds_toArray, List.set_cons_zero, List.set_cons_succ]
          refine restS_take (i := 2) (sa_of BD.out) rfl (by kernel_rfl) (by kernel_rfl) (by kernel_rfl) (by rfl) (fun v hv => by obtain ⟨s0, s1, s2, s3, s4⟩ := hv; go_simp; try with_reducible rfl) ?_
          try simp only [Act.put, List.setIfInBounds_toArray, List.set_cons_zero, List.set_cons_succ]
          refine restS_take (i := 4) (sa_of BD.out) rfl (by kernel_rfl) (by kernel_rfl) (by kernel_rfl) (by rfl) (fun v hv => by obtain ⟨s0, s1, s2, s3, s4⟩ := hv; go_simp; try with_reducible rfl) ?_
          try simp only [Act.put, List.setIfInBounds_toArray, List.set_cons_zero, List.set_cons_succ]
          refine restS_take (i := 5) (sa_of BD.out) rfl (by kernel_rfl) (by kernel_rfl) (by kernel_rfl) (by rfl) (fun v hv => by obtain ⟨s0, s1, s2, s3, s4⟩ := hv; go_simp; try with_reducible rfl) ?_
          try simp only [Act.put, List.setIfInBounds_toArray, List.set_cons_zero, List.set_cons_succ]
          refine restS_take (i := 6) (sa_of BD.out) rfl (by kernel_rfl) (by kernel_rfl) (by kernel_rfl) (by rfl) (fun v hv => by obtain ⟨s0, s1, s2, s3, s4⟩ := hv; go_simp; try with_reducible rfl) ?_
          try simp only [Act.put, List.setIfInBounds_toArray, List.set_cons_zero, List.set_cons_succ]
          refine restS_lone (i := 3) rfl (by kernel_rfl) (by rfl) (fun K hK => ?_)
          go_simp
          refine (HP.out vd ZD.out).mono ?_
          rintro e v1 ⟨rfl, hd1⟩
          obtain ⟨FP, hz1, hb1⟩ := ZD.out.prog KK.out hd1
          have Z1 := Lib.hid hz1
          have B1 := Lib.hid (hb1 _ _ BD.out)
          clear hd1 hz1 hb1 ZD BD
          refine hK.out _ _ (sa_of B1.out) ?_
          clear hK K
          try simp only [Act.put, List.setIfInBounds_toArray, List.set_cons_zero, List.set_cons_succ]
          refine restS_lone (i := 7) rfl (by kernel_rfl) (by rfl) (fun K hK => ?_)
          go_simp
          refine (HR.out v1 FP Z1.out).mono ?_
          rintro e vz ⟨rfl, hd2⟩
          obtain ⟨FR, hz2, hb2⟩ := Z1.out.ref KK.out hd2
          have ZZ := Lib.hid hz2
          have BZ := Lib.hid (hb2 _ _ B1.out)
          clear hd2 hz2 hb2 Z1 B1 HP HR
          refine hK.out _ _ (sa_of BZ.out) ?_
          clear hK K
          try simp only [Act.put, List.setIfInBounds_toArray, List.set_cons_zero, List.set_cons_succ]
          refine restS_take (i := 8) (sa_of BZ.out) rfl (by kernel_rfl) (by kernel_rfl) (by kernel_rfl) (by rfl) (fun v hv => by obtain ⟨s0, s1, s2, s3, s4⟩ := hv; go_simp; try with_reducible rfl) ?_
          try simp only [Act.put, List.setIfInBounds_toArray, List.set_cons_zero, List.set_cons_succ]
          refine restS_take (i := 9) (sa_of BZ.out) rfl (by kernel_rfl) (by kernel_rfl) (by kernel_rfl) (by rfl) (fun v hv => by obtain ⟨s0, s1, s2, s3, s4⟩ := hv; go_simp; try with_reducible rfl) ?_
          try simp only [Act.put, List.setIfInBounds_toArray, List.set_cons_zero, List.set_cons_succ]
          refine restS_done (by kernel_rfl) ?_
          clear BZ
          go_wp2_with fail
          generalize hvd : vz.drew = vd
          have ZT := Lib.hid (show Tw D w vd G FP st1 R FR st1 by rw [← hvd]; exact ZZ.out.grow KK.out ((Below.refl _ vz).drew))
          obtain ⟨Aa, ca, hca, q1, q3⟩ := rd_cells ZT.out.r
          obtain ⟨pc, hpc⟩ : ∃ pc, pc = (st1).pend.length := ⟨_, rfl⟩
          obtain ⟨ct, hct⟩ : ∃ ct, ct = (st1).count := ⟨_, rfl⟩
          have HCt := Lib.hid (fun (v : World) (hv : Grown vd v) => K.count v G FP st1 (i + 1) (ZT.out.grow K hv).p HOk1.out)
          have HWt := Lib.hid (fun (v : World) (hv : Grown vd v) => K.waits v G FP st1 (i + 1) (ZT.out.grow K hv).p HOk1.out (by omega))
          rw [← hpc] at hca q1 HWt
          rw [← hct] at q3 HCt
          have SX := Lib.hid (show ∀ v : World, Grown vd v → v.cell? ⟨R, 1, none⟩ = some (.slice Aa pc ca) ∧ v.cell? ⟨R, 3, none⟩ = some (.int .i64 ct) from fun v hv => ⟨(hv.cell (p := ⟨R, 1, none⟩) (World.block_lt_of_cell? vd _ q1)).trans q1, (hv.cell (p := ⟨R, 3, none⟩) (World.block_lt_of_cell? vd _ q3)).trans q3⟩)
          have S0 := Lib.hid (SX.out vd (Grown.refl _))
          clear hpc hct q1 q3 ZZ
          refine restS_begin (fun v : World => v.cell? ⟨R, 1, none⟩ = some (.slice Aa pc ca) ∧ v.cell? ⟨R, 3, none⟩ = some (.int .i64 ct)) (by kernel_rfl) ?_
          rw [hvd]
          clear hvd
          refine restS_take (i := 0) S0.out rfl (by kernel_rfl) (by kernel_rfl) (by kernel_rfl) (by rfl) (fun v hv => by obtain ⟨s0, s1⟩ := hv; go_simp; try with_reducible rfl) ?_
          try simp only [Act.put, List.setIfInBounds_toArray, List.set_cons_zero, List.set_cons_succ]
          refine restS_take (i := 1) S0.out rfl (by kernel_rfl) (by kernel_rfl) (by kernel_rfl) (by rfl) (fun v hv => by obtain ⟨s0, s1⟩ := hv; go_simp; try with_reducible rfl) ?_
          try simp only [Act.put, List.setIfInBounds_toArray, List.set_cons_zero, List.set_cons_succ]
          refine restS_take (i := 2) S0.out rfl (by kernel_rfl) (by kernel_rfl) (by kernel_rfl) (by rfl) (fun v hv => by obtain ⟨s0, s1⟩ := hv; go_simp; try with_reducible rfl) ?_
          try simp only [Act.put, List.setIfInBounds_toArray, List.set_cons_zero, List.set_cons_succ]
          refine restS_take (i := 3) S0.out rfl (by kernel_rfl) (by kernel_rfl) (by kernel_rfl) (by rfl) (fun v hv => by obtain ⟨s0, s1⟩ := hv; go_simp; try with_reducible rfl) ?_
          try simp only [Act.put, List.setIfInBounds_toArray, List.set_cons_zero, List.set_cons_succ]
          refine restS_take (i := 5) S0.out rfl (by kernel_rfl) (by kernel_rfl) (by kernel_rfl) (by rfl) (fun v hv => by obtain ⟨s0, s1⟩ := hv; go_simp; try with_reducible rfl) ?_
          try simp only [Act.put, List.setIfInBounds_toArray, List.set_cons_zero, List.set_cons_succ]
          refine restS_take (i := 6) S0.out rfl (by kernel_rfl) (by kernel_rfl) (by kernel_rfl) (by rfl) (fun v hv => by obtain ⟨s0, s1⟩ := hv; go_simp; try with_reducible rfl) ?_
          try simp only [Act.put, List.setIfInBounds_toArray, List.set_cons_zero, List.set_cons_succ]
          refine restS_take (i := 7) S0.out rfl (by kernel_rfl) (by kernel_rfl) (by kernel_rfl) (by rfl) (fun v hv => by obtain ⟨s0, s1⟩ := hv; go_simp; try with_reducible rfl) ?_
          try simp only [Act.put, List.setIfInBounds_toArray, List.set_cons_zero, List.set_cons_succ]
          refine restS_take (i := 8) S0.out rfl (by kernel_rfl) (by kernel_rfl) (by kernel_rfl) (by rfl) (fun v hv => by obtain ⟨s0, s1⟩ := hv; go_simp; try with_reducible rfl) ?_
          try simp only [Act.put, List.setIfInBounds_toArray, List.set_cons_zero, List.set_cons_succ]
          refine restS_lone (i := 4) rfl (by kernel_rfl) (by rfl) (fun K hK => ?_)
          go_simp
          refine (HCt.out vd (Grown.refl _)).mono ?_
          rintro e v3 ⟨rfl, hg3⟩
          have G3 := Lib.hid hg3
          have S3 := Lib.hid (SX.out v3 hg3)
          clear hg3
          refine hK.out _ _ S3.out ?_
          clear hK K
          try simp only [Act.put, List.setIfInBounds_toArray, List.set_cons_zero, List.set_cons_succ]
          refine restS_take (i := 9) S3.out rfl (by kernel_rfl) (by kernel_rfl) (by kernel_rfl) (by rfl) (fun v hv => by obtain ⟨s0, s1⟩ := hv; go_simp; try with_reducible rfl) ?_
          try simp only [Act.put, List.setIfInBounds_toArray, List.set_cons_zero, List.set_cons_succ]
          refine restS_take (i := 10) S3.out rfl (by kernel_rfl) (by kernel_rfl) (by kernel_rfl) (by rfl) (fun v hv => by obtain ⟨s0, s1⟩ := hv; go_simp; try with_reducible rfl) ?_
          try simp only [Act.put, List.setIfInBounds_toArray, List.set_cons_zero, List.set_cons_succ]
          refine restS_take (i := 11) S3.out rfl (by kernel_rfl) (by kernel_rfl) (by kernel_rfl) (by rfl) (fun v hv => by obtain ⟨s0, s1⟩ := hv; go_simp; try with_reducible rfl) ?_
          try simp only [Act.put, List.setIfInBounds_toArray, List.set_cons_zero, List.set_cons_succ]
          refine restS_take (i := 12) S3.out rfl (by kernel_rfl) (by kernel_rfl) (by kernel_rfl) (by rfl) (fun v hv => by obtain ⟨s0, s1⟩ := hv; go_simp; try with_reducible rfl) ?_
          try simp only [Act.put, List.setIfInBounds_toArray, List.set_cons_zero, List.set_cons_succ]
          refine restS_take (i := 14) S3.out rfl (by kernel_rfl) (by kernel_rfl) (by kernel_rfl) (by rfl) (fun v hv => by obtain ⟨s0, s1⟩ := hv; go_simp; try with_reducible rfl) ?_
          try simp only [Act.put, List.setIfInBounds_toArray, List.set_cons_zero, List.set_cons_succ]
          refine restS_take (i := 15) S3.out rfl (by kernel_rfl) (by kernel_rfl) (by kernel_rfl) (by rfl) (fun v hv => by obtain ⟨s0, s1⟩ := hv; go_simp; try with_reducible rfl) ?_
          try simp only [Act.put, List.setIfInBounds_toArray, List.set_cons_zero, List.set_cons_succ]
          refine restS_take (i := 16) S3.out rfl (by kernel_rfl) (by kernel_rfl) (by kernel_rfl) (by rfl) (fun v hv => by obtain ⟨s0, s1⟩ := hv; go_simp; try with_reducible rfl) ?_
          try simp only [Act.put, List.setIfInBounds_toArray, List.set_cons_zero, List.set_cons_succ]
          refine restS_take (i := 17) S3.out rfl (by kernel_rfl) (by kernel_rfl) (by kernel_rfl) (by rfl) (fun v hv => by obtain ⟨s0, s1⟩ := hv; go_simp; try with_reducible rfl) ?_
          try simp only [Act.put, List.setIfInBounds_toArray, List.set_cons_zero, List.set_cons_succ]
          refine restS_take (i := 18) S3.out rfl (by kernel_rfl) (by kernel_rfl) (by kernel_rfl) (by rfl) (fun v hv => by obtain ⟨s0, s1⟩ := hv; go_simp; try with_reducible rfl) ?_
          try simp only [Act.put, List.setIfInBounds_toArray, List.set_cons_zero, List.set_cons_succ]
          refine restS_lone (i := 13) rfl (by kernel_rfl) (by rfl) (fun K hK => ?_)
          go_simp
          refine (HWt.out v3 G3.out).mono ?_
          rintro e v4 ⟨rfl, hg4⟩
          have S4 := Lib.hid (SX.out v4 (G3.out.trans hg4))
          have Z9 := Lib.hid (ZT.out.grow KK.out (G3.out.trans hg4))
          clear hg4
          refine hK.out _ _ S4.out ?_
          clear hK K
          try simp only [Act.put, List.setIfInBounds_toArray, List.set_cons_zero, List.set_cons_succ]
          refine restS_take (i := 19) S4.out rfl (by kernel_rfl) (by kernel_rfl) (by kernel_rfl) (by rfl) (fun v hv => by obtain ⟨s0, s1⟩ := hv; go_simp; try with_reducible rfl) ?_
          try simp only [Act.put, List.setIfInBounds_toArray, List.set_cons_zero, List.set_cons_succ]
          refine restS_take (i := 20) S4.out rfl (by kernel_rfl) (by kernel_rfl) (by kernel_rfl) (by rfl) (fun v hv => by obtain ⟨s0, s1⟩ := hv; go_simp; try with_reducible rfl) ?_
          try simp only [Act.put, List.setIfInBounds_toArray, List.set_cons_zero, List.set_cons_succ]
          refine restS_done (by kernel_rfl) ?_
          clear S0 S3 S4 SX HCt HWt
          go_wp2
          exact ⟨⟨i + 1, FP, FR, st1, by simp, by omega, HOk1.out, HL1.out, Z9.out⟩, by simp [intOf]; omega⟩
      · as_aux_lemma =>
          have ZA := Lib.hid (HZ.out.grow K (alloc_below wr (.cells #[.int .i64 7, .int .i64 at_, .int .i64 nn, .slice Ab nb cb, .slice Ak nk ck] 34)))
          have BA := Lib.hid (show Bs (wr.alloc (.cells #[.int .i64 7, .int .i64 at_, .int .i64 nn, .slice Ab nb cb, .slice Ak nk ck] 34)) F F2 wr.heap.size (acO 7 at_ nn Ab nb cb Ak nk ck) from Bs.new K HZ.out _)
          clear HZ
          obtain ⟨er, her⟩ : ∃ er, er = (dvTamper st at_ bb).1 := ⟨_, rfl⟩
          obtain ⟨st1, hst1⟩ : ∃ st1, st1 = (dvTamper st at_ bb).2 := ⟨_, rfl⟩
          have HOk1 := Lib.hid (show Ok st1 (i + 1) by rw [hst1]; exact (ok_tamper HOk.out at_ bb).up (by omega))
          have HL1 := Lib.hid (show st1.kept.length = N by rw [hst1, len_tamper]; exact HL.out)
          have HP := Lib.hid (fun (v : World) (hv : Tw D w v G F st R F2 st) => K.tamper v G F st i at_ Ab nb cb bb hv.p HOk.out (show i ≤ 1000 by omega) (show st.kept.length ≤ 100 by have := HL.out; omega) (HB3.out.grow hv.gr) HB1.out hb2 (by omega) (fun x hx hne hf => by have h1 := rd_lt13 HB3.out hne x hx; have h2 := hv.pb _ hf; omega))
          have HR := Lib.hid (fun (v : World) (FP : Nat → Prop) (hv : Tw D w v G FP st1 R F2 st) => rTamper hv.r HOk.out (show i ≤ 1000 by omega) (show st.kept.length ≤ 100 by have := HL.out; omega) at_ Ab nb cb bb (HB3.out.grow hv.gr) HB1.out (by omega) (fun x hx hne hf => by have h1 := rd_lt13 HB3.out hne x hx; have h2 := (rd_foot hv.r _ hf).1; omega))
          rw [← her, ← hst1] at HP HR
          clear her hst1
          go_wp2_with fail
          obtain ⟨a, ha⟩ : ∃ a, a = wr.heap.size := ⟨_, rfl⟩
          rw [← ha] at BA ⊢
          clear ha d0 d1 d2 d3 d4
          generalize wr.alloc _ = va at ZA BA ⊢
          generalize hvd : va.drew = vd
          have ZD := Lib.hid (show Tw D w vd G F st R F2 st by rw [← hvd]; exact ZA.out.grow K ((Below.refl _ va).drew))
          have BD := Lib.hid (show Bs vd F F2 a (acO 7 at_ nn Ab nb cb Ak nk ck) by rw [← hvd]; exact BA.out.grow ((Below.refl _ va).drew))
          clear ZA BA
          refine restS_begin (SA a 7 at_ nn Ab nb cb Ak nk ck) (by kernel_rfl) ?_
          rw [hvd]
          clear hvd
          refine restS_take (i := 0) (sa_of BD.out) rfl (by kernel_rfl) (by kernel_rfl) (by kernel_rfl) (by rfl) (fun v hv => by obtain ⟨s0, s1, s2, s3, s4⟩ := hv; go_simp; try with_reducible rfl) ?_
          try simp only [Act.put, List.setIfInBounds_toArray, List.set_cons_zero, List.set_cons_succ]
          refine restS_take (i := 1) (sa_of BD.out) rfl (by kernel_rfl) (by kernel_rfl) (by kernel_rfl) (by rfl) (fun v hv => by obtain ⟨s0, s1, s2, s3, s4⟩ := hv; go_simp; try with_reducible rfl) ?_
          try simp only [Act.put, List.setIfInBounds_toArray, List.set_cons_zero, List.set_cons_succ]
          refine restS_take (i := 2) (sa_of BD.out) rfl (by kernel_rfl) (by kernel_rfl) (by kernel_rfl) (by rfl) (fun v hv => by obtain ⟨s0, s1, s2, s3, s4⟩ := hv; go_simp; try with_reducible rfl) ?_
          try simp only [Act.put, List.setIfInBounds_toArray, List.set_cons_zero, List.set_cons_succ]
          refine restS_take (i := 3) (sa_of BD.out) rfl (by kernel_rfl) (by kernel_rfl) (by kernel_rfl) (by rfl) (fun v hv => by obtain ⟨s0, s1, s2, s3, s4⟩ := hv; go_simp; try with_reducible rfl) ?_
          try simp only [Act.put, List.setIfInBounds_toArray, List.set_cons_zero, List.set_cons_succ]
          refine restS_take (i := 4) (sa_of BD.out) rfl (by kernel_rfl) (by kernel_rfl) (by kernel_rfl) (by rfl) (fun v hv => by obtain ⟨s0, s1, s2, s3, s4⟩ := hv; go_simp; try with_reducible rfl) ?_
          try simp only [Act.put, List.setIfInBounds_toArray, List.set_cons_zero, List.set_cons_succ]
          refine restS_take (i := 6) (sa_of BD.out) rfl (by kernel_rfl) (by kernel_rfl) (by kernel_rfl) (by rfl) (fun v hv => by obtain ⟨s0, s1, s2, s3, s4⟩ := hv; go_simp; try with_reducible rfl) ?_
          try simp only [Act.put, List.setIfInBounds_toArray, List.set_cons_zero, List.set_cons_succ]
          refine restS_take (i := 7) (sa_of BD.out) rfl (by kernel_rfl) (by kernel_rfl) (by kernel_rfl) (by rfl) (fun v hv => by obtain ⟨s0, s1, s2, s3, s4⟩ := hv; go_simp; try with_reducible rfl) ?_
          try simp only [Act.put, List.setIfInBounds_toArray, List.set_cons_zero, List.set_cons_succ]
          refine restS_take (i := 8) (sa_of BD.out) rfl (by kernel_rfl) (by kernel_rfl) (by kernel_rfl) (by rfl) (fun v hv => by obtain ⟨s0, s1, s2, s3, s4⟩ := hv; go_simp; try with_reducible rfl) ?_
          try simp only [Act.put, List.setIfInBounds_toArray, List.set_cons_zero, List.set_cons_succ]
          refine restS_take (i := 9) (sa_of BD.out) rfl (by kernel_rfl) (by kernel_rfl) (by kernel_rfl) (by rfl) (fun v hv => by obtain ⟨s0, s1, s2, s3, s4⟩ := hv; go_simp; try with_reducible rfl) ?_
          try simp only [Act.put, List.setIfInBounds_toArray, List.set_cons_zero, List.set_cons_succ]
          refine restS_take (i := 10) (sa_of BD.out) rfl (by kernel_rfl) (by kernel_rfl) (by kernel_rfl) (by rfl) (fun v hv => by obtain ⟨s0, s1, s2, s3, s4⟩ := hv; go_simp; try with_reducible rfl) ?_
          try simp only [Act.put, List.setIfInBounds_toArray, List.set_cons_zero, List.set_cons_succ]
          refine restS_lone (i := 5) rfl (by kernel_rfl) (by rfl) (fun K hK => ?_)
          go_simp
          refine (HP.out vd ZD.out).mono ?_
          rintro e v1 ⟨rfl, hd1⟩
          obtain ⟨FP, hz1, hb1⟩ := ZD.out.prog KK.out hd1
          have Z1 := Lib.hid hz1
          have B1 := Lib.hid (hb1 _ _ BD.out)
          clear hd1 hz1 hb1 ZD BD
          refine hK.out _ _ (sa_of B1.out) ?_
          clear hK K
          try simp only [Act.put, List.setIfInBounds_toArray, List.set_cons_zero, List.set_cons_succ]
          refine restS_lone (i := 11) rfl (by kernel_rfl) (by rfl) (fun K hK => ?_)
          go_simp
          refine (HR.out v1 FP Z1.out).mono ?_
          rintro e vz ⟨rfl, hd2⟩
          obtain ⟨FR, hz2, hb2⟩ := Z1.out.ref KK.out hd2
          have ZZ := Lib.hid hz2
          have BZ := Lib.hid (hb2 _ _ B1.out)
          clear hd2 hz2 hb2 Z1 B1 HP HR
          refine hK.out _ _ (sa_of BZ.out) ?_
          clear hK K
          try simp only [Act.put, List.setIfInBounds_toArray, List.set_cons_zero, List.set_cons_succ]
          refine restS_take (i := 12) (sa_of BZ.out) rfl (by kernel_rfl) (by kernel_rfl) (by kernel_rfl) (by rfl) (fun v hv => by obtain ⟨s0, s1, s2, s3, s4⟩ := hv; go_simp; try with_reducible rfl) ?_
          try simp only [Act.put, List.setIfInBounds_toArray, List.set_cons_zero, List.set_cons_succ]
          refine restS_take (i := 13) (sa_of BZ.out) rfl (by kernel_rfl) (by kernel_rfl) (by kernel_rfl) (by rfl) (fun v hv => by obtain ⟨s0, s1, s2, s3, s4⟩ := hv; go_simp; try with_reducible rfl) ?_
          try simp only [Act.put, List.setIfInBounds_toArray, List.set_cons_zero, List.set_cons_succ]
          refine restS_done (by kernel_rfl) ?_
          clear BZ
          go_wp2_with fail
          generalize hvd : vz.drew = vd
          have ZT := Lib.hid (show Tw D w vd G FP st1 R FR st1 by rw [← hvd]; exact ZZ.out.grow KK.out ((Below.refl _ vz).drew))
          obtain ⟨Aa, ca, hca, q1, q3⟩ := rd_cells ZT.out.r
          obtain ⟨pc, hpc⟩ : ∃ pc, pc = (st1).pend.length := ⟨_, rfl⟩
          obtain ⟨ct, hct⟩ : ∃ ct, ct = (st1).count := ⟨_, rfl⟩
          have HCt := Lib.hid (fun (v : World) (hv : Grown vd v) => K.count v G FP st1 (i + 1) (ZT.out.grow K hv).p HOk1.out)
          have HWt := Lib.hid (fun (v : World) (hv : Grown vd v) => K.waits v G FP st1 (i + 1) (ZT.out.grow K hv).p HOk1.out (by omega))
          rw [← hpc] at hca q1 HWt
          rw [← hct] at q3 HCt
          have SX := Lib.hid (show ∀ v : World, Grown vd v → v.cell? ⟨R, 1, none⟩ = some (.slice Aa pc ca) ∧ v.cell? ⟨R, 3, none⟩ = some (.int .i64 ct) from fun v hv => ⟨(hv.cell (p := ⟨R, 1, none⟩) (World.block_lt_of_cell? vd _ q1)).trans q1, (hv.cell (p := ⟨R, 3, none⟩) (World.block_lt_of_cell? vd _ q3)).trans q3⟩)
          have S0 := Lib.hid (SX.out vd (Grown.refl _))
          clear hpc hct q1 q3 ZZ
          refine restS_begin (fun v : World => v.cell? ⟨R, 1, none⟩ = some (.slice Aa pc ca) ∧ v.cell? ⟨R, 3, none⟩ = some (.int .i64 ct)) (by kernel_rfl) ?_
          rw [hvd]
          clear hvd
          refine restS_take (i := 0) S0.out rfl (by kernel_rfl) (by kernel_rfl) (by kernel_rfl) (by rfl) (fun v hv => by obtain ⟨s0, s1⟩ := hv; go_simp; try with_reducible rfl) ?_
          try simp only [Act.put, List.setIfInBounds_toArray, List.set_cons_zero, List.set_cons_succ]
          refine restS_take (i := 1) S0.out rfl (by kernel_rfl) (by kernel_rfl) (by kernel_rfl) (by rfl) (fun v hv => by obtain ⟨s0, s1⟩ := hv; go_simp; try with_reducible rfl) ?_
          try simp only [Act.put, List.setIfInBounds_toArray, List.set_cons_zero, List.set_cons_succ]
          refine restS_take (i := 2) S0.out rfl (by kernel_rfl) (by kernel_rfl) (by kernel_rfl) (by rfl) (fun v hv => by obtain ⟨s0, s1⟩ := hv; go_simp; try with_reducible rfl) ?_
          try simp only [Act.put, List.setIfInBounds_toArray, List.set_cons_zero, List.set_cons_succ]
          refine restS_take (i := 3) S0.out rfl (by kernel_rfl) (by kernel_rfl) (by kernel_rfl) (by rfl) (fun v hv => by obtain ⟨s0, s1⟩ := hv; go_simp; try with_reducible rfl) ?_
          try simp only [Act.put, List.setIfInBounds_toArray, List.set_cons_zero, List.set_cons_succ]
          refine restS_take (i := 5) S0.out rfl (by kernel_rfl) (by kernel_rfl) (by kernel_rfl) (by rfl) (fun v hv => by obtain ⟨s0, s1⟩ := hv; go_simp; try with_reducible rfl) ?_
          try simp only [Act.put, List.setIfInBounds_toArray, List.set_cons_zero, List.set_cons_succ]
          refine restS_take (i := 6) S0.out rfl (by kernel_rfl) (by kernel_rfl) (by kernel_rfl) (by rfl) (fun v hv => by obtain ⟨s0, s1⟩ := hv; go_simp; try with_reducible rfl) ?_
          try simp only [Act.put, List.setIfInBounds_toArray, List.set_cons_zero, List.set_cons_succ]
          refine restS_take (i := 7) S0.out rfl (by kernel_rfl) (by kernel_rfl) (by kernel_rfl) (by rfl) (fun v hv => by obtain ⟨s0, s1⟩ := hv; go_simp; try with_reducible rfl) ?_
          try simp only [Act.put, List.setIfInBounds_toArray, List.set_cons_zero, List.set_cons_succ]
          refine restS_take (i := 8) S0.out rfl (by kernel_rfl) (by kernel_rfl) (by kernel_rfl) (by rfl) (fun v hv => by obtain ⟨s0, s1⟩ := hv; go_simp; try with_reducible rfl) ?_
          try simp only [Act.put, List.setIfInBounds_toArray, List.set_cons_zero, List.set_cons_succ]
          refine restS_lone (i := 4) rfl (by kernel_rfl) (by rfl) (fun K hK => ?_)
          go_simp
          refine (HCt.out vd (Grown.refl _)).mono ?_
          rintro e v3 ⟨rfl, hg3⟩
          have G3 := Lib.hid hg3
          have S3 := Lib.hid (SX.out v3 hg3)
          clear hg3
          refine hK.out _ _ S3.out ?_
          clear hK K
          try simp only [Act.put, List.setIfInBounds_toArray, List.set_cons_zero, List.set_cons_succ]
          refine restS_take (i := 9) S3.out rfl (by kernel_rfl) (by kernel_rfl) (by kernel_rfl) (by rfl) (fun v hv => by obtain ⟨s0, s1⟩ := hv; go_simp; try with_reducible rfl) ?_
          try simp only [Act.put, List.setIfInBounds_toArray, List.set_cons_zero, List.set_cons_succ]
          refine restS_take (i := 10) S3.out rfl (by kernel_rfl) (by kernel_rfl) (by kernel_rfl) (by rfl) (fun v hv => by obtain ⟨s0, s1⟩ := hv; go_simp; try with_reducible rfl) ?_
          try simp only [Act.put, List.setIfInBounds_toArray, List.set_cons_zero, List.set_cons_succ]
          refine restS_take (i := 11) S3.out rfl (by kernel_rfl) (by kernel_rfl) (by kernel_rfl) (by rfl) (fun v hv => by obtain ⟨s0, s1⟩ := hv; go_simp; try with_reducible rfl) ?_
          try simp only [Act.put, List.setIfInBounds_toArray, List.set_cons_zero, List.set_cons_succ]
          refine restS_take (i := 12) S3.out rfl (by kernel_rfl) (by kernel_rfl) (by kernel_rfl) (by rfl) (fun v hv => by obtain ⟨s0, s1⟩ := hv; go_simp; try with_reducible rfl) ?_
          try simp only [Act.put, List.setIfInBounds_toArray, List.set_cons_zero, List.set_cons_succ]
          refine restS_take (i := 14) S3.out rfl (by kernel_rfl) (by kernel_rfl) (by kernel_rfl) (by rfl) (fun v hv => by obtain ⟨s0, s1⟩ := hv; go_simp; try with_reducible rfl) ?_
          try simp only [Act.put, List.setIfInBounds_toArray, List.set_cons_zero, List.set_cons_succ]
          refine restS_take (i := 15) S3.out rfl (by kernel_rfl) (by kernel_rfl) (by kernel_rfl) (by rfl) (fun v hv => by obtain ⟨s0, s1⟩ := hv; go_simp; try with_reducible rfl) ?_
          try simp only [Act.put, List.setIfInBounds_toArray, List.set_cons_zero, List.set_cons_succ]
          refine restS_take (i := 16) S3.out rfl (by kernel_rfl) (by kernel_rfl) (by kernel_rfl) (by rfl) (fun v hv => by obtain ⟨s0, s1⟩ := hv; go_simp; try with_reducible rfl) ?_
          try simp only [Act.put, List.setIfInBounds_toArray, List.set_cons_zero, List.set_cons_succ]
          refine restS_take (i := 17) S3.out rfl (by kernel_rfl) (by kernel_rfl) (by kernel_rfl) (by rfl) (fun v hv => by obtain ⟨s0, s1⟩ := hv; go_simp; try with_reducible rfl) ?_
          try simp only [Act.put, List.setIfInBounds_toArray, List.set_cons_zero, List.set_cons_succ]
          refine restS_take (i := 18) S3.out rfl (by kernel_rfl) (by kernel_rfl) (by kernel_rfl) (by rfl) (fun v hv => by obtain ⟨s0, s1⟩ := hv; go_simp; try with_reducible rfl) ?_
          try simp only [Act.put, List.setIfInBounds_toArray, List.set_cons_zero, List.set_cons_succ]
          refine restS_lone (i := 13) rfl (by kernel_rfl) (by rfl) (fun K hK => ?_)
          go_simp
          refine (HWt.out v3 G3.out).mono ?_
          rintro e v4 ⟨rfl, hg4⟩
          have S4 := Lib.hid (SX.out v4 (G3.out.trans hg4))
          have Z9 := Lib.hid (ZT.out.grow KK.out (G3.out.trans hg4))
          clear hg4
          refine hK.out _ _ S4.out ?_
          clear hK K
          try simp only [Act.put, List.setIfInBounds_toArray, List.set_cons_zero, List.set_cons_succ]
          refine restS_take (i := 19) S4.out rfl (by kernel_rfl) (by kernel_rfl) (by kernel_rfl) (by rfl) (fun v hv => by obtain ⟨s0, s1⟩ := hv; go_simp; try with_reducible rfl) ?_
          try simp only [Act.put, List.setIfInBounds_toArray, List.set_cons_zero, List.set_cons_succ]
          refine restS_take (i := 20) S4.out rfl (by kernel_rfl) (by kernel_rfl) (by kernel_rfl) (by rfl) (fun v hv => by obtain ⟨s0, s1⟩ := hv; go_simp; try with_reducible rfl) ?_
          try simp only [Act.put, List.setIfInBounds_toArray, List.set_cons_zero, List.set_cons_succ]
          refine restS_done (by kernel_rfl) ?_
          clear S0 S3 S4 SX HCt HWt
          go_wp2
          exact ⟨⟨i + 1, FP, FR, st1, by simp, by omega, HOk1.out, HL1.out, Z9.out⟩, by simp [intOf]; omega⟩
      · as_aux_lemma =>
          have ZA := Lib.hid (HZ.out.grow K (alloc_below wr (.cells #[.int .i64 k, .int .i64 at_, .int .i64 nn, .slice Ab nb cb, .slice Ak nk ck] 34)))
          have BA := Lib.hid (show Bs (wr.alloc (.cells #[.int .i64 k, .int .i64 at_, .int .i64 nn, .slice Ab nb cb, .slice Ak nk ck] 34)) F F2 wr.heap.size (acO k at_ nn Ab nb cb Ak nk ck) from Bs.new K HZ.out _)
          clear HZ
          go_wp2_with fail
          obtain ⟨a, ha⟩ : ∃ a, a = wr.heap.size := ⟨_, rfl⟩
          rw [← ha] at BA ⊢
          clear ha d0 d1 d2 d3 d4
          generalize wr.alloc _ = va at ZA BA ⊢
          have ZZ := Lib.hid ZA.out
          have HOk1 := Lib.hid (HOk.out.up (show i ≤ i + 1 by omega))
          have HL1 := Lib.hid HL.out
          clear ZA BA
          generalize va = vz at ZZ ⊢
          generalize hvd : vz.drew = vd
          have ZT := Lib.hid (show Tw D w vd G F st R F2 st by rw [← hvd]; exact ZZ.out.grow KK.out ((Below.refl _ vz).drew))
          obtain ⟨Aa, ca, hca, q1, q3⟩ := rd_cells ZT.out.r
          obtain ⟨pc, hpc⟩ : ∃ pc, pc = (st).pend.length := ⟨_, rfl⟩
          obtain ⟨ct, hct⟩ : ∃ ct, ct = (st).count := ⟨_, rfl⟩
          have HCt := Lib.hid (fun (v : World) (hv : Grown vd v) => K.count v G F st (i + 1) (ZT.out.grow K hv).p HOk1.out)
          have HWt := Lib.hid (fun (v : World) (hv : Grown vd v) => K.waits v G F st (i + 1) (ZT.out.grow K hv).p HOk1.out (by omega))
          rw [← hpc] at hca q1 HWt
          rw [← hct] at q3 HCt
          have SX := Lib.hid (show ∀ v : World, Grown vd v → v.cell? ⟨R, 1, none⟩ = some (.slice Aa pc ca) ∧ v.cell? ⟨R, 3, none⟩ = some (.int .i64 ct) from fun v hv => ⟨(hv.cell (p := ⟨R, 1, none⟩) (World.block_lt_of_cell? vd _ q1)).trans q1, (hv.cell (p := ⟨R, 3, none⟩) (World.block_lt_of_cell? vd _ q3)).trans q3⟩)
          have S0 := Lib.hid (SX.out vd (Grown.refl _))
          clear hpc hct q1 q3 ZZ
          refine restS_begin (fun v : World => v.cell? ⟨R, 1, none⟩ = some (.slice Aa pc ca) ∧ v.cell? ⟨R, 3, none⟩ = some (.int .i64 ct)) (by kernel_rfl) ?_
          rw [hvd]
          clear hvd
          refine restS_take (i := 0) S0.out rfl (by kernel_rfl) (by kernel_rfl) (by kernel_rfl) (by rfl) (fun v hv => by obtain ⟨s0, s1⟩ := hv; go_simp; try with_reducible rfl) ?_
          try simp only [Act.put, List.setIfInBounds_toArray, List.set_cons_zero, List.set_cons_succ]
          refine restS_take (i := 1) S0.out rfl (by kernel_rfl) (by kernel_rfl) (by kernel_rfl) (by rfl) (fun v hv => by obtain ⟨s0, s1⟩ := hv; go_simp; try with_reducible rfl) ?_
          try simp only [Act.put, List.setIfInBounds_toArray, List.set_cons_zero, List.set_cons_succ]
          refine restS_take (i := 2) S0.out rfl (by kernel_rfl) (by kernel_rfl) (by kernel_rfl) (by rfl) (fun v hv => by obtain ⟨s0, s1⟩ := hv; go_simp; try with_reducible rfl) ?_
          try simp only [Act.put, List.setIfInBounds_toArray, List.set_cons_zero, List.set_cons_succ]
          refine restS_take (i := 3) S0.out rfl (by kernel_rfl) (by kernel_rfl) (by kernel_rfl) (by rfl) (fun v hv => by obtain ⟨s0, s1⟩ := hv; go_simp; try with_reducible rfl) ?_
          try simp only [Act.put, List.setIfInBounds_toArray, List.set_cons_zero, List.set_cons_succ]
          refine restS_take (i := 5) S0.out rfl (by kernel_rfl) (by kernel_rfl) (by kernel_rfl) (by rfl) (fun v hv => by obtain ⟨s0, s1⟩ := hv; go_simp; try with_reducible rfl) ?_
          try simp only [Act.put, List.setIfInBounds_toArray, List.set_cons_zero, List.set_cons_succ]
          refine restS_take (i := 6) S0.out rfl (by kernel_rfl) (by kernel_rfl) (by kernel_rfl) (by rfl) (fun v hv => by obtain ⟨s0, s1⟩ := hv; go_simp; try with_reducible rfl) ?_
          try simp only [Act.put, List.setIfInBounds_toArray, List.set_cons_zero, List.set_cons_succ]
          refine restS_take (i := 7) S0.out rfl (by kernel_rfl) (by kernel_rfl) (by kernel_rfl) (by rfl) (fun v hv => by obtain ⟨s0, s1⟩ := hv; go_simp; try with_reducible rfl) ?_
          try simp only [Act.put, List.setIfInBounds_toArray, List.set_cons_zero, List.set_cons_succ]
          refine restS_take (i := 8) S0.out rfl (by kernel_rfl) (by kernel_rfl) (by kernel_rfl) (by rfl) (fun v hv => by obtain ⟨s0, s1⟩ := hv; go_simp; try with_reducible rfl) ?_
          try simp only [Act.put, List.setIfInBounds_toArray, List.set_cons_zero, List.set_cons_succ]
          refine restS_lone (i := 4) rfl (by kernel_rfl) (by rfl) (fun K hK => ?_)
          go_simp
          refine (HCt.out vd (Grown.refl _)).mono ?_
          rintro e v3 ⟨rfl, hg3⟩
          have G3 := Lib.hid hg3
          have S3 := Lib.hid (SX.out v3 hg3)
          clear hg3
          refine hK.out _ _ S3.out ?_
          clear hK K
          try simp only [Act.put, List.setIfInBounds_toArray, List.set_cons_zero, List.set_cons_succ]
          refine restS_take (i := 9) S3.out rfl (by kernel_rfl) (by kernel_rfl) (by kernel_rfl) (by rfl) (fun v hv => by obtain ⟨s0, s1⟩ := hv; go_simp; try with_reducible rfl) ?_
          try simp only [Act.put, List.setIfInBounds_toArray, List.set_cons_zero, List.set_cons_succ]
          refine restS_take (i := 10) S3.out rfl (by kernel_rfl) (by kernel_rfl) (by kernel_rfl) (by rfl) (fun v hv => by obtain ⟨s0, s1⟩ := hv; go_simp; try with_reducible rfl) ?_
          try simp only [Act.put, List.setIfInBounds_toArray, List.set_cons_zero, List.set_cons_succ]
          refine restS_take (i := 11) S3.out rfl (by kernel_rfl) (by kernel_rfl) (by kernel_rfl) (by rfl) (fun v hv => by obtain ⟨s0, s1⟩ := hv; go_simp; try with_reducible rfl) ?_
          try simp only [Act.put, List.setIfInBounds_toArray, List.set_cons_zero, List.set_cons_succ]
          refine restS_take (i := 12) S3.out rfl (by kernel_rfl) (by kernel_rfl) (by kernel_rfl) (by rfl) (fun v hv => by obtain ⟨s0, s1⟩ := hv; go_simp; try with_reducible rfl) ?_
          try simp only [Act.put, List.setIfInBounds_toArray, List.set_cons_zero, List.set_cons_succ]
          refine restS_take (i := 14) S3.out rfl (by kernel_rfl) (by kernel_rfl) (by kernel_rfl) (by rfl) (fun v hv => by obtain ⟨s0, s1⟩ := hv; go_simp; try with_reducible rfl) ?_
          try simp only [Act.put, List.setIfInBounds_toArray, List.set_cons_zero, List.set_cons_succ]
          refine restS_take (i := 15) S3.out rfl (by kernel_rfl) (by kernel_rfl) (by kernel_rfl) (by rfl) (fun v hv => by obtain ⟨s0, s1⟩ := hv; go_simp; try with_reducible rfl) ?_
          try simp only [Act.put, List.setIfInBounds_toArray, List.set_cons_zero, List.set_cons_succ]
          refine restS_take (i := 16) S3.out rfl (by kernel_rfl) (by kernel_rfl) (by kernel_rfl) (by rfl) (fun v hv => by obtain ⟨s0, s1⟩ := hv; go_simp; try with_reducible rfl) ?_
          try simp only [Act.put, List.setIfInBounds_toArray, List.set_cons_zero, List.set_cons_succ]
          refine restS_take (i := 17) S3.out rfl (by kernel_rfl) (by kernel_rfl) (by kernel_rfl) (by rfl) (fun v hv => by obtain ⟨s0, s1⟩ := hv; go_simp; try with_reducible rfl) ?_
          try simp only [Act.put, List.setIfInBounds_toArray, List.set_cons_zero, List.set_cons_succ]
          refine restS_take (i := 18) S3.out rfl (by kernel_rfl) (by kernel_rfl) (by kernel_rfl) (by rfl) (fun v hv => by obtain ⟨s0, s1⟩ := hv; go_simp; try with_reducible rfl) ?_
          try simp only [Act.put, List.setIfInBounds_toArray, List.set_cons_zero, List.set_cons_succ]
          refine restS_lone (i := 13) rfl (by kernel_rfl) (by rfl) (fun K hK => ?_)
          go_simp
          refine (HWt.out v3 G3.out).mono ?_
          rintro e v4 ⟨rfl, hg4⟩
          have S4 := Lib.hid (SX.out v4 (G3.out.trans hg4))
          have Z9 := Lib.hid (ZT.out.grow KK.out (G3.out.trans hg4))
          clear hg4
          refine hK.out _ _ S4.out ?_
          clear hK K
          try simp only [Act.put, List.setIfInBounds_toArray, List.set_cons_zero, List.set_cons_succ]
          refine restS_take (i := 19) S4.out rfl (by kernel_rfl) (by kernel_rfl) (by kernel_rfl) (by rfl) (fun v hv => by obtain ⟨s0, s1⟩ := hv; go_simp; try with_reducible rfl) ?_
          try simp only [Act.put, List.setIfInBounds_toArray, List.set_cons_zero, List.set_cons_succ]
          refine restS_take (i := 20) S4.out rfl (by kernel_rfl) (by kernel_rfl) (by kernel_rfl) (by rfl) (fun v hv => by obtain ⟨s0, s1⟩ := hv; go_simp; try with_reducible rfl) ?_
          try simp only [Act.put, List.setIfInBounds_toArray, List.set_cons_zero, List.set_cons_succ]
          refine restS_done (by kernel_rfl) ?_
          clear S0 S3 S4 SX HCt HWt
          go_wp2
          exact ⟨⟨i + 1, F, F2, st, by simp, by omega, HOk1.out, HL1.out, Z9.out⟩, by simp [intOf]; omega⟩
    · have bi : ¬ ((i : Int) < (m : Int)) := by omega
      have bj : (i : Int) ≥ (m : Int) := by omega
      go_wp2_with fail
      have HN30 := Lib.hid (show N ≤ 30 by omega)
      have HI40 := Lib.hid (show i ≤ 40 by omega)
      clear bi bj
      go_loopw [15, 16] (fun v15 v16 wq => ∃ (j : Nat) (S : List UInt8), v15 = .string ⟨S.toArray⟩ ∧ v16 = .int .i64 (j : Int) ∧ j ≤ N ∧ Hid (S.length = 512 * j) ∧ Hid (S = ((List.range j).map (see st)).flatten) ∧ Hid (Tw D w wq G F st R F2 st)) (fun _ v16 _ => N - (intOf v16).toNat)
      case atStart => exact ⟨0, [], rfl, rfl, Nat.zero_le _, rfl, rfl, HZ.out⟩
      case round =>
        clear HZ
        obtain ⟨j, S, rfl, rfl, hj, HSn, HS, HQ⟩ := hrel
        by_cases hjN : j < N
        · have bjN : (j : Int) < (N : Int) := by omega
          have HSee := Lib.hid (rSee HQ.out.r j (by rw [HL.out]; exact hjN) (by have := HOk.out.few; have := HI40.out; omega) (by omega))
          obtain ⟨T, hT⟩ : ∃ T, T = see st j := ⟨_, rfl⟩
          have HT := Lib.hid hT
          have HTn := Lib.hid (show T.length = 512 by rw [hT]; exact see_len HOk.out (by rw [HL.out]; exact hjN))
          have hbd : ¬ 9223372036854775807 < S.length + T.length := by rw [HTn.out, HSn.out]; have := HN30.out; omega
          rw [← hT] at HSee
          clear hT
          go_wp2_with fail
          refine HSee.out.mono ?_
          rintro e wq2 ⟨rfl, rfl⟩
          clear HSee
          go_wp2
          refine ⟨⟨j + 1, S ++ T, ?_, by simp, by omega, ?_, ?_, HQ.out⟩, by simp [intOf]; omega⟩
          · rw [show ((⟨S.toArray⟩ : ByteArray) ++ ⟨T.toArray⟩) = ⟨(S ++ T).toArray⟩ from ByteArray.ext (by simp [ByteArray.data_append])]
          · show (S ++ T).length = 512 * (j + 1)
            rw [List.length_append, HSn.out, HTn.out]; omega
          · show S ++ T = _
            rw [List.range_succ, List.map_append, List.flatten_append, ← HS.out, HT.out]
            simp
        · obtain rfl : j = N := by omega
          have HIm := Lib.hid (K.image _ G F st i HQ.out.p HOk.out (by have := HI40.out; omega) (by have := HL.out; have := HN30.out; omega))
          have HSi := Lib.hid (show S = image st by rw [HS.out]; unfold image; rw [HL.out])
          go_wp2_with fail
          refine HIm.out.mono ?_
          rintro e w9 ⟨A9, m9, c9, rfl, hi1, hi2, hi3, hi4⟩
          have hcv := conv hi3 c9
          rw [hi1, ← HSi.out] at hcv
          have G9 := Lib.hid (HQ.out.gr.trans hi4)
          clear hi1 hi2 hi3 hi4 HIm
          go_wp2
          go_ret
          exact ⟨by simp, G9.out⟩
end
end Go.Proofs.Yteigfpgdnfladaa.S13
