/-
  CacheActs' walk, out of what is asked of the program.
-/
import Derived.Test.YthakdjaaknbmpaaMgKactsMain38
namespace Go.Proofs.Ythakdjaaknbmpaa.S14
open S13
open Cf
open Go.RowKit
set_option linter.unusedVariables false
set_option linter.unusedSimpArgs false

section
variable {D : DTab} {C : CTab}
set_option maxRecDepth 20000 in
set_option maxHeartbeats 16000000 in
set_option maxRecDepth 20000 in
theorem cacts_walk (K : DevOk D) (KC : CacheOk D C) (r : Int) (hr0 : -9223372036854775808 ≤ r) (hr1 : r < 9223372036854775808) (DA : Option Addr) (m dc : Nat) (acts : List Ad) (w : World) (hD : RdAd w w.heap.size DA acts) (hm : acts.length = m) (hmc : m ≤ dc) :
    Calls Try.prog 3 #[.int .i64 r, .slice DA m dc] w fun e w' => e = .returned (.bool true) ∧ Below w.heap.size w w' := by
  have KK := Lib.hid K
  have KKC := Lib.hid KC
  have HD := Lib.hid hD
  have HM := Lib.hid hm
  clear K KC hD hm
  go_enter Try.func3, Try.ntmps3
  go_wp2_with fail
  refine (awakeC KK.out KKC.out w).mono ?_
  rintro e w0 ⟨rfl, hg0⟩
  have G0 := Lib.hid hg0
  clear hg0
  by_cases h1 : 40 < m
  · have b1 : (m : Int) > 40 := by omega
    go_wp2_with fail
    refine (awakeC KK.out KKC.out w0).mono ?_
    rintro e wz ⟨rfl, hgz⟩
    have GZ := Lib.hid (Grown.trans G0.out hgz)
    clear hgz
    go_wp2
    go_ret
    exact ⟨rfl, GZ.out⟩
  have b1 : ¬ (m : Int) > 40 := by omega
  have hm40 : m ≤ 40 := by omega
  clear h1
  go_wp2_with fail
  refine (KK.out.new w0 6 (by omega) (by omega)).mono ?_
  rintro e w1 ⟨H, FD, rfl, hd, hF, hg⟩
  have Z1 := Lib.hid (show DSince D w w1 H FD (dvNew 6) from ⟨hd, fun k hk => Nat.le_trans G0.out.size (hF k hk), Grown.trans G0.out hg⟩)
  clear hd hF hg G0
  go_wp2_with fail
  by_cases hneg : r < 0
  · refine (KKC.out.newBad w1 H r hr0 hneg).mono ?_
    rintro e w2 ⟨rfl, hg2⟩
    have G2 := Lib.hid (Grown.trans Z1.out.2.2 hg2)
    clear hg2
    go_wp2
    go_ret
    exact ⟨rfl, G2.out⟩
  obtain ⟨room, rfl⟩ : ∃ room : Nat, r = (room : Int) := ⟨r.toNat, by omega⟩
  have hroom : room < 9223372036854775808 := by omega
  have b2 : ¬ (room : Int) < 0 := by omega
  clear hneg hr0 hr1
  refine (KKC.out.new w1 H FD (dvNew 6) room Z1.out.1 hroom).mono ?_
  rintro e w3 ⟨G, FC, rfl, hcc, hF, hg⟩
  have Z3 := Lib.hid (CSince.make KKC.out.kept (devKp KK.out) Z1.out hcc hF hg)
  clear hcc hF hg Z1
  go_wp2_with fail
  refine (refNew_any w3 6 (by omega)).mono ?_
  rintro e w4 ⟨R, Ak, rfl, hR, hg4⟩
  have Z4 := Lib.hid (Z3.out.grow KKC.out.kept (devKp KK.out) hg4)
  have HR4 := Lib.hid (show RD w.heap.size w4 R (RV R Ak none none) (dvNew 6) by
    obtain ⟨ck, ca, cw, q1, q2, q3, q4⟩ := hR.ex
    exact ⟨Ak, none, none, { hR with bR := Nat.le_trans Z3.out.2.2.size hR.bR, ex := ⟨ck, ca, cw, q1, owBase q2 Z3.out.2.2.size, owBase q3 Z3.out.2.2.size, owBase q4 Z3.out.2.2.size⟩ }, rfl⟩)
  have HRb := Lib.hid (show ∀ k, RV R Ak none none k → w3.heap.size ≤ k from fun k hk => (hR.lt k hk).1)
  have H3F := Lib.hid (show ∀ k, (FC k ∨ FD k) → k < w3.heap.size from fun k hk => Z3.out.1.foot KKC.out.kept (devKp KK.out) k hk)
  clear hR hg4 Z3
  go_wp2_with fail
  have GQ := Lib.hid (alloc_below w4 (.cells #[.pointer (some ⟨R, 0, none⟩), .int .i64 (room : Int), .slice none 0 0, .slice none 0 0] 37))
  have NQ := Lib.hid (heap_alloc_new w4 (.cells #[.pointer (some ⟨R, 0, none⟩), .int .i64 (room : Int), .slice none 0 0, .slice none 0 0] 37))
  obtain ⟨Q, hQ⟩ : ∃ Q, Q = w4.heap.size := ⟨_, rfl⟩
  have HQ := Lib.hid hQ
  rw [← hQ] at NQ ⊢
  clear hQ
  generalize w4.alloc _ = w5 at GQ NQ ⊢
  have ZS := Lib.hid (show ∃ F F2, Sd (Pc D C G H room [] (dvNew 6)) (Pc (RD w.heap.size) (RC w.heap.size) Q R room [] (dvNew 6)) w w5 F F2 by
    have hw4 := Z4.out.2.2.size
    have hq : Qv w5 w.heap.size Q R none none room [] := ⟨by rw [HQ.out]; exact hw4, fun x hx => (by cases hx), fun x hx => (by cases hx), fun x y hx => (by cases hx), 0, 0, NQ.out, Ow.nil _ _ _, Ow.nil _ _ _⟩
    have hrl := fun k hk => (rd_foot HR4.out k hk).2
    have hr : RD w.heap.size w5 R (RV R Ak none none) (dvNew 6) := rd_keep HR4.out (fun k hk => GQ.out.block k (hrl k hk))
    have hz := Z4.out.grow KKC.out.kept (devKp KK.out) GQ.out
    refine ⟨_, fun k => QF Q none none k ∨ RV R Ak none none k, hz.1, ⟨QF Q none none, RV R Ak none none, ⟨none, none, hq, rfl⟩, hr, fun k hk hk2 => ?_, fun k => Iff.rfl⟩, fun k hk => ⟨hz.2.1 k hk, hz.1.foot KKC.out.kept (devKp KK.out) k hk⟩, fun k hk => ?_, fun k hk hk2 => ?_, hz.2.2⟩
    · have := hrl k hk2
      have h9 := HQ.out
      rcases hk with rfl | ⟨x, hx, _⟩ | ⟨x, hx, _⟩
      · omega
      · cases hx
      · cases hx
    · rcases hk with hk | hk
      · exact hq.lt k hk
      · exact rd_foot hr k hk
    · have h7 := H3F.out k hk
      rcases hk2 with (rfl | ⟨x, hx, _⟩ | ⟨x, hx, _⟩) | hk2
      · have := H3F.out _ hk; have := HQ.out; have h5 := HRb.out R (.inl rfl); have h6 := hrl R (.inl rfl); omega
      · cases hx
      · cases hx
      · have := HRb.out k hk2; omega)
  obtain ⟨F, F2, hz⟩ := ZS.out
  have ZT := Lib.hid hz
  clear hz ZS Z4 HR4 HRb H3F GQ NQ HQ
  go_wp2_with fail
  go_loopw [10] (fun v10 wr => ∃ (i : Nat) (F F2 : Nat → Prop) (l : Ka) (dv : Dv), v10 = .int .i64 (i : Int) ∧ i ≤ m ∧ Hid (KNum 6 room l dv i) ∧ Hid (Sd (Pc D C G H room l dv) (Pc (RD w.heap.size) (RC w.heap.size) Q R room l dv) w wr F F2)) (fun v10 _ => m - (intOf v10).toNat)
  case atStart => exact ⟨0, F, F2, [], dvNew 6, rfl, Nat.zero_le _, knum_new 6 room, ZT.out⟩
  case round =>
    clear ZT F F2
    obtain ⟨i, F, F2, l, dv, rfl, hi, HN, HZ⟩ := hrel
    by_cases hlt : i < m
    · have him : i < acts.length := by rw [HM.out]; exact hlt
      have bi : (i : Int) < (m : Int) := by omega
      obtain ⟨b, off, hDe, hbl, hall⟩ : ∃ b off, DA = some ⟨b, off, none⟩ ∧ b < w.heap.size ∧ _ := by
        rcases HD.out with h0 | ⟨b, off, h1, h2, h3⟩
        · rw [h0] at him; simp at him
        · exact ⟨b, off, h1, h2, h3 i him⟩
      obtain ⟨Ab, nb, cb, Ak, nk, ck, d0, d1, d2, d3, d4, hb1, hb2, hb3, hk1, hk2, hk3, hn1, hn2⟩ := hall
      obtain ⟨ac, hac⟩ : ∃ ac, ac = acts[i] := ⟨_, rfl⟩
      rw [← hac] at d0 d1 d2 hb1 hb3 hk1 hk3 hn1 hn2
      obtain ⟨k, at_, nn, bb, kp⟩ := ac
      simp only at d0 d1 d2 hb1 hb3 hk1 hk3 hn1 hn2
      clear hac him
      obtain ⟨oc, hoc⟩ : ∃ oc, oc = off + i * 5 := ⟨_, rfl⟩
      have cg : ∀ j, wr.cell? ⟨b, j, none⟩ = w.cell? ⟨b, j, none⟩ := fun j => HZ.out.gr.cell (p := ⟨b, j, none⟩) hbl
      rw [← cg] at d0 d1 d2 d3 d4
      have HB1 := Lib.hid hb1
      have HB3 := Lib.hid hb3
      have HK1 := Lib.hid hk1
      have HK3 := Lib.hid hk3
      subst hDe
      clear cg hb1 hb3 hk1 hk3 hoc
      have hgP := (pcKeeps KKC.out.kept (devKp KK.out) G H room l dv)
      have hgQ := (pcKeeps (rcKept w.heap.size) (rdKept w.heap.size) Q R room l dv)
      by_cases t1 : (nb : Int) > 600
      · have HG := Lib.hid ((HZ.out.grow hgP hgQ (alloc_below wr (acO k at_ nn Ab nb cb Ak nk ck))).gr)
        clear hgP hgQ
        go_wp2
        go_ret
        exact ⟨rfl, HG.out⟩
      by_cases t2 : (nk : Int) > 40
      · have HG := Lib.hid ((HZ.out.grow hgP hgQ (alloc_below wr (acO k at_ nn Ab nb cb Ak nk ck))).gr)
        clear hgP hgQ
        go_wp2
        go_ret
        exact ⟨rfl, HG.out⟩
      have hnb : nb ≤ 600 := by omega
      have hnk : nk ≤ 40 := by omega
      clear hgP hgQ
      rcases (show k = 0 ∨ k = 1 ∨ k = 2 ∨ k = 3 ∨ k = 4 ∨ k = 5 ∨ k = 6 ∨ k = 7 ∨ (k ≠ 0 ∧ k ≠ 1 ∧ k ≠ 2 ∧ k ≠ 3 ∧ k ≠ 4 ∧ k ≠ 5 ∧ k ≠ 6 ∧ k ≠ 7) by omega) with rfl | rfl | rfl | rfl | rfl | rfl | rfl | rfl | ⟨n0, n1, n2, n3, n4, n5, n6, n7⟩
      · as_aux_lemma =>
          have ZA := Lib.hid (HZ.out.grow (pcKeeps KKC.out.kept (devKp KK.out) G H room l dv) (pcKeeps (rcKept w.heap.size) (rdKept w.heap.size) Q R room l dv) (alloc_below wr (acO 0 at_ nn Ab nb cb Ak nk ck)))
          have BA := Lib.hid (show Bs (wr.alloc (acO 0 at_ nn Ab nb cb Ak nk ck)) F F2 wr.heap.size (acO 0 at_ nn Ab nb cb Ak nk ck) from bsNew HZ.out _)
          clear HZ
          obtain ⟨er, her⟩ : ∃ er, er = (kaWrite room l dv at_ bb).1 := ⟨_, rfl⟩
          obtain ⟨st1, hst1⟩ : ∃ st1, st1 = (kaWrite room l dv at_ bb).2.2 := ⟨_, rfl⟩
          obtain ⟨l1, hl1⟩ : ∃ l1 : Ka, l1 = (kaWrite room l dv at_ bb).2.1 := ⟨_, rfl⟩
          have HN1 := Lib.hid (show KNum 6 room l1 st1 (i + 1) by rw [hl1, hst1]; exact HN.out.write at_ bb)
          have HP := Lib.hid (fun (v : World) (hv : Sd (Pc D C G H room l dv) (Pc (RD w.heap.size) (RC w.heap.size) Q R room l dv) w v F F2) => KKC.out.write v G H F room l dv i at_ Ab nb cb bb hv.p (by rw [HN.out.len]; exact HN.out.ko) HN.out.ok (by omega) (by rw [HN.out.len]; omega) hroom (HB3.out.grow hv.gr) HB1.out hb2 (by omega) (fun x hx hne hf => by have h1 := rd_lt13 HB3.out hne x hx; have h2 := (hv.pf _ hf).1; omega))
          have HR := Lib.hid (fun (v : World) (FP : Nat → Prop) (hv : Sd (Pc D C G H room l1 st1) (Pc (RD w.heap.size) (RC w.heap.size) Q R room l dv) w v FP F2) => qWrite hv.q (by rw [HN.out.len]; exact HN.out.ko) HN.out.ok (by omega) (by rw [HN.out.len]; omega) hroom at_ Ab nb cb bb (HB3.out.grow hv.gr) HB1.out (by omega) (fun x hx hne hf => by have h1 := rd_lt13 HB3.out hne x hx; have h2 := (hv.qf _ hf).1; omega))
          rw [← her, ← hst1, ← hl1] at HP HR
          have hbe : (er == er) = true := by simp
          clear her hst1 hl1
          go_wp2_with fail
          obtain ⟨a, ha⟩ : ∃ a, a = wr.heap.size := ⟨_, rfl⟩
          rw [← ha] at BA ⊢
          clear ha d0 d1 d2 d3 d4
          generalize wr.alloc _ = va at ZA BA ⊢
          generalize hvd : va.drew = vd
          have ZD := Lib.hid (show Sd (Pc D C G H room l dv) (Pc (RD w.heap.size) (RC w.heap.size) Q R room l dv) w vd F F2 by rw [← hvd]; exact ZA.out.grow (pcKeeps KKC.out.kept (devKp KK.out) G H room l dv) (pcKeeps (rcKept w.heap.size) (rdKept w.heap.size) Q R room l dv) ((Below.refl _ va).drew))
          have BD := Lib.hid (show Bs vd F F2 a (acO 0 at_ nn Ab nb cb Ak nk ck) by rw [← hvd]; exact BA.out.grow ((Below.refl _ va).drew))
          clear ZA BA
          refine restS_begin (SA a 0 at_ nn Ab nb cb Ak nk ck) (by kernel_rfl) ?_
          rw [hvd]
          clear hvd
          refine restS_take (i := 0) (sa_of BD.out) rfl (by kernel_rfl) (by kernel_rfl) (by kernel_rfl) (by rfl) (fun v hv => by obtain ⟨s0, s1, s2, s3, s4⟩ := hv; go_simp; try with_reducible rfl) ?_
          try simp only [Act.put, List.setIfInBounds_toArray, List.set_cons_zero, List.set_cons_succ]
          refine restS_take (i := 1) (sa_of BD.out) rfl (by kernel_rfl) (by kernel_rfl) (by kernel_rfl) (by rfl) (fun v hv => by obtain ⟨s0, s1, s2, s3, s4⟩ := hv; go_simp; try with_reducible rfl) ?_
          try simp only [Act.put, List.setIfInBounds_toArray, List.set_cons_zero, List.set_cons_succ]
          refine restS_take (i := 2) (sa_of BD.out) rfl (by kernel_rfl) (by kernel_rfl) (by kernel_rfl) (by rfl) (fun v hv => by obtain ⟨s0, s1, s2, s3, s4⟩ := hv; go_simp; try with_reducible rfl) ?_
          try simp only [Act.put, List.setIfInBounds_toArray, List.set_cons_zero, List.set_cons_succ]
          refine restS_take (i := 3) (sa_of BD.out) rfl (by kernel_rfl) (by kernel_rfl) (by kernel_rfl) (by rfl) (fun v hv => by obtain ⟨s0, s1, s2, s3, s4⟩ := hv; go_simp; try with_reducible rfl) ?_
          try simp only [Act.put, List.setIfInBounds_toArray, List.set_cons_zero, List.set_cons_succ]
          refine restS_take (i := 4) (sa_of BD.out) rfl (by kernel_rfl) (by kernel_rfl) (by kernel_rfl) (by rfl) (fun v hv => by obtain ⟨s0, s1, s2, s3, s4⟩ := hv; go_simp; try with_reducible rfl) ?_
          try simp only [Act.put, List.setIfInBounds_toArray, List.set_cons_zero, List.set_cons_succ]
          refine restS_take (i := 6) (sa_of BD.out) rfl (by kernel_rfl) (by kernel_rfl) (by kernel_rfl) (by rfl) (fun v hv => by obtain ⟨s0, s1, s2, s3, s4⟩ := hv; go_simp; try with_reducible rfl) ?_
          try simp only [Act.put, List.setIfInBounds_toArray, List.set_cons_zero, List.set_cons_succ]
          refine restS_take (i := 7) (sa_of BD.out) rfl (by kernel_rfl) (by kernel_rfl) (by kernel_rfl) (by rfl) (fun v hv => by obtain ⟨s0, s1, s2, s3, s4⟩ := hv; go_simp; try with_reducible rfl) ?_
          try simp only [Act.put, List.setIfInBounds_toArray, List.set_cons_zero, List.set_cons_succ]
          refine restS_take (i := 8) (sa_of BD.out) rfl (by kernel_rfl) (by kernel_rfl) (by kernel_rfl) (by rfl) (fun v hv => by obtain ⟨s0, s1, s2, s3, s4⟩ := hv; go_simp; try with_reducible rfl) ?_
          try simp only [Act.put, List.setIfInBounds_toArray, List.set_cons_zero, List.set_cons_succ]
          refine restS_take (i := 9) (sa_of BD.out) rfl (by kernel_rfl) (by kernel_rfl) (by kernel_rfl) (by rfl) (fun v hv => by obtain ⟨s0, s1, s2, s3, s4⟩ := hv; go_simp; try with_reducible rfl) ?_
          try simp only [Act.put, List.setIfInBounds_toArray, List.set_cons_zero, List.set_cons_succ]
          refine restS_take (i := 10) (sa_of BD.out) rfl (by kernel_rfl) (by kernel_rfl) (by kernel_rfl) (by rfl) (fun v hv => by obtain ⟨s0, s1, s2, s3, s4⟩ := hv; go_simp; try with_reducible rfl) ?_
          try simp only [Act.put, List.setIfInBounds_toArray, List.set_cons_zero, List.set_cons_succ]
          refine restS_lone (i := 5) rfl (by kernel_rfl) (by rfl) (fun K hK => ?_)
          go_simp
          refine (HP.out vd ZD.out).mono ?_
          rintro e v1 ⟨rfl, FP, hcd, hb, hc⟩
          have hs1 := ZD.out.step (P' := Pc D C G H room l1 st1) (pcKeeps (rcKept w.heap.size) (rdKept w.heap.size) Q R room l dv) hcd (hcd.foot KKC.out.kept (devKp KK.out)) hb hc
          have Z1 := Lib.hid hs1.1
          have B1 := Lib.hid (hs1.2 _ _ BD.out)
          clear hcd hb hc hs1 ZD BD
          refine hK.out _ _ (sa_of B1.out) ?_
          clear hK K
          try simp only [Act.put, List.setIfInBounds_toArray, List.set_cons_zero, List.set_cons_succ]
          refine restS_lone (i := 11) rfl (by kernel_rfl) (by rfl) (fun K hK => ?_)
          go_simp
          refine (HR.out v1 FP Z1.out).mono ?_
          rintro e vz ⟨rfl, FR, hcd, hb, hc⟩
          have hs1 := Z1.out.swap.step (P' := Pc (RD w.heap.size) (RC w.heap.size) Q R room l1 st1) (pcKeeps KKC.out.kept (devKp KK.out) G H room l1 st1) hcd (hcd.foot (rcKept w.heap.size) (rdKept w.heap.size)) hb hc
          have ZZ := Lib.hid hs1.1.swap
          have BZ := Lib.hid (S14.Bs.swap (hs1.2 _ _ (S14.Bs.swap B1.out)))
          clear hcd hb hc hs1 Z1 B1 HP HR
          refine hK.out _ _ (sa_of BZ.out) ?_
          clear hK K
          try simp only [Act.put, List.setIfInBounds_toArray, List.set_cons_zero, List.set_cons_succ]
          refine restS_take (i := 12) (sa_of BZ.out) rfl (by kernel_rfl) (by kernel_rfl) (by kernel_rfl) (by rfl) (fun v hv => by obtain ⟨s0, s1, s2, s3, s4⟩ := hv; go_simp; try with_reducible rfl) ?_
          try simp only [Act.put, List.setIfInBounds_toArray, List.set_cons_zero, List.set_cons_succ]
          refine restS_take (i := 13) (sa_of BZ.out) rfl (by kernel_rfl) (by kernel_rfl) (by kernel_rfl) (by rfl) (fun v hv => by obtain ⟨s0, s1, s2, s3, s4⟩ := hv; go_simp; try with_reducible rfl) ?_
          try simp only [Act.put, List.setIfInBounds_toArray, List.set_cons_zero, List.set_cons_succ]
          refine restS_done (by kernel_rfl) ?_
          clear BZ
          go_wp2_with fail
          generalize hvd : vz.drew = vd
          have ZT := Lib.hid (show Sd (Pc D C G H room l1 st1) (Pc (RD w.heap.size) (RC w.heap.size) Q R room l1 st1) w vd FP FR by rw [← hvd]; exact ZZ.out.grow (pcKeeps KKC.out.kept (devKp KK.out) G H room l1 st1) (pcKeeps (rcKept w.heap.size) (rdKept w.heap.size) Q R room l1 st1) ((Below.refl _ vz).drew))
          obtain ⟨Ax, cx, Ay, cy, q0, q2, qz, qc, q1, _, _, hQl, hRl⟩ := qCells ZT.out.q
          obtain ⟨lk, hlk⟩ : ∃ lk, lk = l1.length := ⟨_, rfl⟩
          obtain ⟨pc, hpc⟩ : ∃ pc, pc = st1.pend.length := ⟨_, rfl⟩
          have HKt := Lib.hid (KKC.out.keeps vd G H FP room l1 st1 ZT.out.p (by rw [HN1.out.len]; exact HN1.out.ko) (by rw [HN1.out.len]; omega))
          have HWt := Lib.hid (fun (v : World) (hv : Grown vd v) => show Calls Try.prog 28 #[.pointer (some ⟨H, 0, none⟩)] v fun e w' => e = .returned (.int .i64 (st1.pend.length : Int)) ∧ Grown v w' by
            obtain ⟨Fc, Fd, hc, hd, ha, hF⟩ := (ZT.out.grow (pcKeeps KKC.out.kept (devKp KK.out) G H room l1 st1) (pcKeeps (rcKept w.heap.size) (rdKept w.heap.size) Q R room l1 st1) hv).p
            exact KK.out.waits v H Fd st1 (i + 1) hd HN1.out.ok (by omega))
          have HKl := Lib.hid (show (keys l1).length = lk by rw [keys_len, hlk])
          have HK6 := Lib.hid (show lk ≤ 6 by rw [hlk]; exact HN1.out.ko.few)
          have hlr : ¬ (lk : Int) > (room : Int) := by have := HN1.out.ko.room; omega
          have QZ := Lib.hid qz
          rw [← hlk] at q2 HKt
          rw [← hpc] at q1 qc HWt
          have SX := Lib.hid (show ∀ v : World, Grown vd v → v.cell? ⟨Q, 0, none⟩ = some (.pointer (some ⟨R, 0, none⟩)) ∧ v.cell? ⟨Q, 2, none⟩ = some (.slice Ax lk cx) ∧ v.cell? ⟨R, 1, none⟩ = some (.slice Ay pc cy) from fun v hv => ⟨(hv.cell (p := ⟨Q, 0, none⟩) hQl).trans q0, (hv.cell (p := ⟨Q, 2, none⟩) hQl).trans q2, (hv.cell (p := ⟨R, 1, none⟩) hRl).trans q1⟩)
          have S0 := Lib.hid (SX.out vd (Grown.refl _))
          clear hlk hpc q0 q1 q2 qz hQl hRl ZZ
          refine restS_begin (fun v : World => v.cell? ⟨Q, 0, none⟩ = some (.pointer (some ⟨R, 0, none⟩)) ∧ v.cell? ⟨Q, 2, none⟩ = some (.slice Ax lk cx) ∧ v.cell? ⟨R, 1, none⟩ = some (.slice Ay pc cy)) (by kernel_rfl) ?_
          rw [hvd]
          clear hvd
          refine restS_take (i := 0) S0.out rfl (by kernel_rfl) (by kernel_rfl) (by kernel_rfl) (by rfl) (fun v hv => by obtain ⟨s0, s1, s2⟩ := hv; go_simp; try with_reducible rfl) ?_
          try simp only [Act.put, List.setIfInBounds_toArray, List.set_cons_zero, List.set_cons_succ]
          refine restS_take (i := 1) S0.out rfl (by kernel_rfl) (by kernel_rfl) (by kernel_rfl) (by rfl) (fun v hv => by obtain ⟨s0, s1, s2⟩ := hv; go_simp; try with_reducible rfl) ?_
          try simp only [Act.put, List.setIfInBounds_toArray, List.set_cons_zero, List.set_cons_succ]
          refine restS_take (i := 2) S0.out rfl (by kernel_rfl) (by kernel_rfl) (by kernel_rfl) (by rfl) (fun v hv => by obtain ⟨s0, s1, s2⟩ := hv; go_simp; try with_reducible rfl) ?_
          try simp only [Act.put, List.setIfInBounds_toArray, List.set_cons_zero, List.set_cons_succ]
          refine restS_take (i := 3) S0.out rfl (by kernel_rfl) (by kernel_rfl) (by kernel_rfl) (by rfl) (fun v hv => by obtain ⟨s0, s1, s2⟩ := hv; go_simp; try with_reducible rfl) ?_
          try simp only [Act.put, List.setIfInBounds_toArray, List.set_cons_zero, List.set_cons_succ]
          refine restS_take (i := 5) S0.out rfl (by kernel_rfl) (by kernel_rfl) (by kernel_rfl) (by rfl) (fun v hv => by obtain ⟨s0, s1, s2⟩ := hv; go_simp; try with_reducible rfl) ?_
          try simp only [Act.put, List.setIfInBounds_toArray, List.set_cons_zero, List.set_cons_succ]
          refine restS_take (i := 6) S0.out rfl (by kernel_rfl) (by kernel_rfl) (by kernel_rfl) (by rfl) (fun v hv => by obtain ⟨s0, s1, s2⟩ := hv; go_simp; try with_reducible rfl) ?_
          try simp only [Act.put, List.setIfInBounds_toArray, List.set_cons_zero, List.set_cons_succ]
          refine restS_take (i := 7) S0.out rfl (by kernel_rfl) (by kernel_rfl) (by kernel_rfl) (by rfl) (fun v hv => by obtain ⟨s0, s1, s2⟩ := hv; go_simp; try with_reducible rfl) ?_
          try simp only [Act.put, List.setIfInBounds_toArray, List.set_cons_zero, List.set_cons_succ]
          refine restS_take (i := 8) S0.out rfl (by kernel_rfl) (by kernel_rfl) (by kernel_rfl) (by rfl) (fun v hv => by obtain ⟨s0, s1, s2⟩ := hv; go_simp; try with_reducible rfl) ?_
          try simp only [Act.put, List.setIfInBounds_toArray, List.set_cons_zero, List.set_cons_succ]
          refine restS_lone (i := 4) rfl (by kernel_rfl) (by rfl) (fun K hK => ?_)
          go_simp
          refine (HKt.out).mono ?_
          rintro e v3 ⟨A5, m5, c5, rfl, hm5, hc5, hr5, hg5⟩
          obtain rfl := hm5
          have G3 := Lib.hid hg5
          have S3 := Lib.hid (SX.out v3 hg5)
          have R5 := Lib.hid hr5
          have Q5 := Lib.hid (QZ.out.grow hg5)
          clear hg5 hr5 HKt QZ
          refine hK.out _ _ S3.out ?_
          clear hK K
          try simp only [Act.put, List.setIfInBounds_toArray, List.set_cons_zero, List.set_cons_succ]
          refine restS_lone (i := 9) rfl (by kernel_rfl) (by rfl) (fun K hK => ?_)
          go_simp
          refine (S15.refInts_any (l := keys l1) (l2 := keys l1) (c := c5) (c2 := cx) (n := lk) (n2 := lk) (show S15.RdZ _ _ A5 (keys l1) from R5.out) HKl.out (by have := HK6.out; omega) Q5.out HKl.out (by have := HK6.out; omega)).mono ?_
          rintro e v4 ⟨rfl, hg4⟩
          rw [show decide (keys l1 = keys l1) = true from decide_eq_true rfl]
          have G4 := Lib.hid (G3.out.trans hg4)
          have S4 := Lib.hid (SX.out v4 G4.out)
          clear hg4 R5 Q5 G3 S3
          refine hK.out _ _ S4.out ?_
          clear hK K
          try simp only [Act.put, List.setIfInBounds_toArray, List.set_cons_zero, List.set_cons_succ]
          refine restS_take (i := 10) S4.out rfl (by kernel_rfl) (by kernel_rfl) (by kernel_rfl) (by rfl) (fun v hv => by obtain ⟨s0, s1, s2⟩ := hv; go_simp; try with_reducible rfl) ?_
          try simp only [Act.put, List.setIfInBounds_toArray, List.set_cons_zero, List.set_cons_succ]
          refine restS_take (i := 11) S4.out rfl (by kernel_rfl) (by kernel_rfl) (by kernel_rfl) (by rfl) (fun v hv => by obtain ⟨s0, s1, s2⟩ := hv; go_simp; try with_reducible rfl) ?_
          try simp only [Act.put, List.setIfInBounds_toArray, List.set_cons_zero, List.set_cons_succ]
          refine restS_take (i := 12) S4.out rfl (by kernel_rfl) (by kernel_rfl) (by kernel_rfl) (by rfl) (fun v hv => by obtain ⟨s0, s1, s2⟩ := hv; go_simp; try with_reducible rfl) ?_
          try simp only [Act.put, List.setIfInBounds_toArray, List.set_cons_zero, List.set_cons_succ]
          refine restS_take (i := 13) S4.out rfl (by kernel_rfl) (by kernel_rfl) (by kernel_rfl) (by rfl) (fun v hv => by obtain ⟨s0, s1, s2⟩ := hv; go_simp; try with_reducible rfl) ?_
          try simp only [Act.put, List.setIfInBounds_toArray, List.set_cons_zero, List.set_cons_succ]
          refine restS_take (i := 15) S4.out rfl (by kernel_rfl) (by kernel_rfl) (by kernel_rfl) (by rfl) (fun v hv => by obtain ⟨s0, s1, s2⟩ := hv; go_simp; try with_reducible rfl) ?_
          try simp only [Act.put, List.setIfInBounds_toArray, List.set_cons_zero, List.set_cons_succ]
          refine restS_take (i := 16) S4.out rfl (by kernel_rfl) (by kernel_rfl) (by kernel_rfl) (by rfl) (fun v hv => by obtain ⟨s0, s1, s2⟩ := hv; go_simp; try with_reducible rfl) ?_
          try simp only [Act.put, List.setIfInBounds_toArray, List.set_cons_zero, List.set_cons_succ]
          refine restS_take (i := 17) S4.out rfl (by kernel_rfl) (by kernel_rfl) (by kernel_rfl) (by rfl) (fun v hv => by obtain ⟨s0, s1, s2⟩ := hv; go_simp; try with_reducible rfl) ?_
          try simp only [Act.put, List.setIfInBounds_toArray, List.set_cons_zero, List.set_cons_succ]
          refine restS_take (i := 18) S4.out rfl (by kernel_rfl) (by kernel_rfl) (by kernel_rfl) (by rfl) (fun v hv => by obtain ⟨s0, s1, s2⟩ := hv; go_simp; try with_reducible rfl) ?_
          try simp only [Act.put, List.setIfInBounds_toArray, List.set_cons_zero, List.set_cons_succ]
          refine restS_take (i := 19) S4.out rfl (by kernel_rfl) (by kernel_rfl) (by kernel_rfl) (by rfl) (fun v hv => by obtain ⟨s0, s1, s2⟩ := hv; go_simp; try with_reducible rfl) ?_
          try simp only [Act.put, List.setIfInBounds_toArray, List.set_cons_zero, List.set_cons_succ]
          refine restS_take (i := 20) S4.out rfl (by kernel_rfl) (by kernel_rfl) (by kernel_rfl) (by rfl) (fun v hv => by obtain ⟨s0, s1, s2⟩ := hv; go_simp; try with_reducible rfl) ?_
          try simp only [Act.put, List.setIfInBounds_toArray, List.set_cons_zero, List.set_cons_succ]
          refine restS_take (i := 21) S4.out rfl (by kernel_rfl) (by kernel_rfl) (by kernel_rfl) (by rfl) (fun v hv => by obtain ⟨s0, s1, s2⟩ := hv; go_simp; try with_reducible rfl) ?_
          try simp only [Act.put, List.setIfInBounds_toArray, List.set_cons_zero, List.set_cons_succ]
          refine restS_take (i := 22) S4.out rfl (by kernel_rfl) (by kernel_rfl) (by kernel_rfl) (by rfl) (fun v hv => by obtain ⟨s0, s1, s2⟩ := hv; go_simp; try with_reducible rfl) ?_
          try simp only [Act.put, List.setIfInBounds_toArray, List.set_cons_zero, List.set_cons_succ]
          refine restS_lone (i := 14) rfl (by kernel_rfl) (by rfl) (fun K hK => ?_)
          go_simp
          refine (HWt.out v4 G4.out).mono ?_
          rintro e v5 ⟨rfl, hg5⟩
          have G5 := Lib.hid (G4.out.trans hg5)
          have S5 := Lib.hid (SX.out v5 G5.out)
          have Z9 := Lib.hid (ZT.out.grow (pcKeeps KKC.out.kept (devKp KK.out) G H room l1 st1) (pcKeeps (rcKept w.heap.size) (rdKept w.heap.size) Q R room l1 st1) G5.out)
          clear hg5 G4 S4
          refine hK.out _ _ S5.out ?_
          clear hK K
          try simp only [Act.put, List.setIfInBounds_toArray, List.set_cons_zero, List.set_cons_succ]
          refine restS_take (i := 23) S5.out rfl (by kernel_rfl) (by kernel_rfl) (by kernel_rfl) (by rfl) (fun v hv => by obtain ⟨s0, s1, s2⟩ := hv; go_simp; try with_reducible rfl) ?_
          try simp only [Act.put, List.setIfInBounds_toArray, List.set_cons_zero, List.set_cons_succ]
          refine restS_take (i := 24) S5.out rfl (by kernel_rfl) (by kernel_rfl) (by kernel_rfl) (by rfl) (fun v hv => by obtain ⟨s0, s1, s2⟩ := hv; go_simp; try with_reducible rfl) ?_
          try simp only [Act.put, List.setIfInBounds_toArray, List.set_cons_zero, List.set_cons_succ]
          refine restS_take (i := 25) S5.out rfl (by kernel_rfl) (by kernel_rfl) (by kernel_rfl) (by rfl) (fun v hv => by obtain ⟨s0, s1, s2⟩ := hv; go_simp; try with_reducible rfl) ?_
          try simp only [Act.put, List.setIfInBounds_toArray, List.set_cons_zero, List.set_cons_succ]
          refine restS_take (i := 26) S5.out rfl (by kernel_rfl) (by kernel_rfl) (by kernel_rfl) (by rfl) (fun v hv => by obtain ⟨s0, s1, s2⟩ := hv; go_simp; try with_reducible rfl) ?_
          try simp only [Act.put, List.setIfInBounds_toArray, List.set_cons_zero, List.set_cons_succ]
          refine restS_take (i := 27) S5.out rfl (by kernel_rfl) (by kernel_rfl) (by kernel_rfl) (by rfl) (fun v hv => by obtain ⟨s0, s1, s2⟩ := hv; go_simp; try with_reducible rfl) ?_
          try simp only [Act.put, List.setIfInBounds_toArray, List.set_cons_zero, List.set_cons_succ]
          refine restS_take (i := 28) S5.out rfl (by kernel_rfl) (by kernel_rfl) (by kernel_rfl) (by rfl) (fun v hv => by obtain ⟨s0, s1, s2⟩ := hv; go_simp; try with_reducible rfl) ?_
          try simp only [Act.put, List.setIfInBounds_toArray, List.set_cons_zero, List.set_cons_succ]
          refine restS_take (i := 29) S5.out rfl (by kernel_rfl) (by kernel_rfl) (by kernel_rfl) (by rfl) (fun v hv => by obtain ⟨s0, s1, s2⟩ := hv; go_simp; try with_reducible rfl) ?_
          try simp only [Act.put, List.setIfInBounds_toArray, List.set_cons_zero, List.set_cons_succ]
          refine restS_take (i := 30) S5.out rfl (by kernel_rfl) (by kernel_rfl) (by kernel_rfl) (by rfl) (fun v hv => by obtain ⟨s0, s1, s2⟩ := hv; go_simp; try with_reducible rfl) ?_
          try simp only [Act.put, List.setIfInBounds_toArray, List.set_cons_zero, List.set_cons_succ]
          refine restS_take (i := 31) S5.out rfl (by kernel_rfl) (by kernel_rfl) (by kernel_rfl) (by rfl) (fun v hv => by obtain ⟨s0, s1, s2⟩ := hv; go_simp; try with_reducible rfl) ?_
          try simp only [Act.put, List.setIfInBounds_toArray, List.set_cons_zero, List.set_cons_succ]
          refine restS_take (i := 32) S5.out rfl (by kernel_rfl) (by kernel_rfl) (by kernel_rfl) (by rfl) (fun v hv => by obtain ⟨s0, s1, s2⟩ := hv; go_simp; try with_reducible rfl) ?_
          try simp only [Act.put, List.setIfInBounds_toArray, List.set_cons_zero, List.set_cons_succ]
          refine restS_take (i := 33) S5.out rfl (by kernel_rfl) (by kernel_rfl) (by kernel_rfl) (by rfl) (fun v hv => by obtain ⟨s0, s1, s2⟩ := hv; go_simp; try with_reducible rfl) ?_
          try simp only [Act.put, List.setIfInBounds_toArray, List.set_cons_zero, List.set_cons_succ]
          refine restS_done (by kernel_rfl) ?_
          clear S0 S5 SX HWt
          go_wp2
          exact ⟨⟨i + 1, FP, FR, l1, st1, by first | rfl | simp | go_num, by omega, HN1.out, Z9.out⟩, by simp [intOf]; omega⟩
      · as_aux_lemma =>
          have ZA := Lib.hid (HZ.out.grow (pcKeeps KKC.out.kept (devKp KK.out) G H room l dv) (pcKeeps (rcKept w.heap.size) (rdKept w.heap.size) Q R room l dv) (alloc_below wr (acO 1 at_ nn Ab nb cb Ak nk ck)))
          have BA := Lib.hid (show Bs (wr.alloc (acO 1 at_ nn Ab nb cb Ak nk ck)) F F2 wr.heap.size (acO 1 at_ nn Ab nb cb Ak nk ck) from bsNew HZ.out _)
          clear HZ
          obtain ⟨lx, hlx⟩ : ∃ lx, lx = (kaRead room l dv at_).1 := ⟨_, rfl⟩
          obtain ⟨er, her⟩ : ∃ er, er = (kaRead room l dv at_).2.1 := ⟨_, rfl⟩
          obtain ⟨st1, hst1⟩ : ∃ st1, st1 = (kaRead room l dv at_).2.2.2 := ⟨_, rfl⟩
          obtain ⟨l1, hl1⟩ : ∃ l1 : Ka, l1 = (kaRead room l dv at_).2.2.1 := ⟨_, rfl⟩
          have HN1 := Lib.hid (show KNum 6 room l1 st1 (i + 1) by rw [hl1, hst1]; exact (HN.out.read at_).up (by omega))
          have HP := Lib.hid (fun (v : World) (hv : Sd (Pc D C G H room l dv) (Pc (RD w.heap.size) (RC w.heap.size) Q R room l dv) w v F F2) => KKC.out.read v G H F room l dv i at_ hv.p (by rw [HN.out.len]; exact HN.out.ko) HN.out.ok (by omega) (by rw [HN.out.len]; omega) hroom)
          have HR := Lib.hid (fun (v : World) (FP : Nat → Prop) (hv : Sd (Pc D C G H room l1 st1) (Pc (RD w.heap.size) (RC w.heap.size) Q R room l dv) w v FP F2) => qRead hv.q (by rw [HN.out.len]; exact HN.out.ko) HN.out.ok (by omega) (by rw [HN.out.len]; omega) hroom at_)
          have HLX := Lib.hid (show lx = [] ∨ lx.length = 512 by rw [hlx]; exact kread_len HN.out at_)
          rw [← hlx, ← her, ← hst1, ← hl1] at HP HR
          have hbe : (er == er) = true := by simp
          clear hlx her hst1 hl1
          go_wp2_with fail
          obtain ⟨a, ha⟩ : ∃ a, a = wr.heap.size := ⟨_, rfl⟩
          rw [← ha] at BA ⊢
          clear ha d0 d1 d2 d3 d4
          generalize wr.alloc _ = va at ZA BA ⊢
          refine (HP.out va ZA.out).mono ?_
          rintro e v1 ⟨Ax, mx, cx, rfl, hx1, hx2, hx3, FP, hcd, hb, hc, hx⟩
          have HX := Lib.hid hx
          have OX := Lib.hid hx3
          have FA := Lib.hid (show ∀ k, F2 k → k < va.heap.size from fun k hk => (ZA.out.qf k hk).2)
          have WX := Lib.hid (show w.heap.size ≤ va.heap.size from ZA.out.gr.size)
          have hs1 := ZA.out.step (P' := Pc D C G H room l1 st1) (pcKeeps (rcKept w.heap.size) (rdKept w.heap.size) Q R room l dv) hcd (hcd.foot KKC.out.kept (devKp KK.out)) hb hc
          have Z1 := Lib.hid hs1.1
          have B1 := Lib.hid (hs1.2 _ _ BA.out)
          clear hcd hb hc hs1 ZA BA
          obtain ⟨s0, s1, s2, s3, s4⟩ := sa_of B1.out
          clear hx hx3
          go_wp2_with fail
          clear s0 s1 s2 s3 s4
          refine (HR.out v1 FP Z1.out).mono ?_
          rintro e v2 ⟨rfl, FR, hcd, hb, hc⟩
          have hs1 := Z1.out.swap.step (P' := Pc (RD w.heap.size) (RC w.heap.size) Q R room l1 st1) (pcKeeps KKC.out.kept (devKp KK.out) G H room l1 st1) hcd (hcd.foot (rcKept w.heap.size) (rdKept w.heap.size)) hb hc
          have hz2 := hs1.1.swap
          have hb2 : ∀ a o, Bs v1 FP F2 a o → Bs v2 FP FR a o := fun a o h => S14.Bs.swap (hs1.2 a o (S14.Bs.swap h))
          clear hcd hb hc hs1
          rw [show sv lx = Value.string ⟨lx.toArray⟩ from rfl]
          by_cases hl0 : lx = []
          · subst hl0
            obtain rfl : mx = 0 := by rw [← hx1]; rfl
            have hcv : (convert 38 9 (.slice Ax 0 cx)).run Try.prog v2 = .ok (.string ⟨#[]⟩) v2 := conv (w := v2) (B := 0) (A := Ax) (l := []) (.inl rfl) cx
            have ZZ := Lib.hid hz2
            clear hz2 hb2 Z1 B1 HP HR HX OX FA WX hx1 hx2
            go_wp2_with fail
            clear hcv
            generalize v2 = vz at ZZ ⊢
            generalize hvd : vz.drew = vd
            have ZT := Lib.hid (show Sd (Pc D C G H room l1 st1) (Pc (RD w.heap.size) (RC w.heap.size) Q R room l1 st1) w vd FP FR by rw [← hvd]; exact ZZ.out.grow (pcKeeps KKC.out.kept (devKp KK.out) G H room l1 st1) (pcKeeps (rcKept w.heap.size) (rdKept w.heap.size) Q R room l1 st1) ((Below.refl _ vz).drew))
            obtain ⟨Ax, cx, Ay, cy, q0, q2, qz, qc, q1, _, _, hQl, hRl⟩ := qCells ZT.out.q
            obtain ⟨lk, hlk⟩ : ∃ lk, lk = l1.length := ⟨_, rfl⟩
            obtain ⟨pc, hpc⟩ : ∃ pc, pc = st1.pend.length := ⟨_, rfl⟩
            have HKt := Lib.hid (KKC.out.keeps vd G H FP room l1 st1 ZT.out.p (by rw [HN1.out.len]; exact HN1.out.ko) (by rw [HN1.out.len]; omega))
            have HWt := Lib.hid (fun (v : World) (hv : Grown vd v) => show Calls Try.prog 28 #[.pointer (some ⟨H, 0, none⟩)] v fun e w' => e = .returned (.int .i64 (st1.pend.length : Int)) ∧ Grown v w' by
              obtain ⟨Fc, Fd, hc, hd, ha, hF⟩ := (ZT.out.grow (pcKeeps KKC.out.kept (devKp KK.out) G H room l1 st1) (pcKeeps (rcKept w.heap.size) (rdKept w.heap.size) Q R room l1 st1) hv).p
              exact KK.out.waits v H Fd st1 (i + 1) hd HN1.out.ok (by omega))
            have HKl := Lib.hid (show (keys l1).length = lk by rw [keys_len, hlk])
            have HK6 := Lib.hid (show lk ≤ 6 by rw [hlk]; exact HN1.out.ko.few)
            have hlr : ¬ (lk : Int) > (room : Int) := by have := HN1.out.ko.room; omega
            have QZ := Lib.hid qz
            rw [← hlk] at q2 HKt
            rw [← hpc] at q1 qc HWt
            have SX := Lib.hid (show ∀ v : World, Grown vd v → v.cell? ⟨Q, 0, none⟩ = some (.pointer (some ⟨R, 0, none⟩)) ∧ v.cell? ⟨Q, 2, none⟩ = some (.slice Ax lk cx) ∧ v.cell? ⟨R, 1, none⟩ = some (.slice Ay pc cy) from fun v hv => ⟨(hv.cell (p := ⟨Q, 0, none⟩) hQl).trans q0, (hv.cell (p := ⟨Q, 2, none⟩) hQl).trans q2, (hv.cell (p := ⟨R, 1, none⟩) hRl).trans q1⟩)
            have S0 := Lib.hid (SX.out vd (Grown.refl _))
            clear hlk hpc q0 q1 q2 qz hQl hRl ZZ
            refine restS_begin (fun v : World => v.cell? ⟨Q, 0, none⟩ = some (.pointer (some ⟨R, 0, none⟩)) ∧ v.cell? ⟨Q, 2, none⟩ = some (.slice Ax lk cx) ∧ v.cell? ⟨R, 1, none⟩ = some (.slice Ay pc cy)) (by kernel_rfl) ?_
            rw [hvd]
            clear hvd
            refine restS_take (i := 0) S0.out rfl (by kernel_rfl) (by kernel_rfl) (by kernel_rfl) (by rfl) (fun v hv => by obtain ⟨s0, s1, s2⟩ := hv; go_simp; try with_reducible rfl) ?_
            try simp only [Act.put, List.setIfInBounds_toArray, List.set_cons_zero, List.set_cons_succ]
            refine restS_take (i := 1) S0.out rfl (by kernel_rfl) (by kernel_rfl) (by kernel_rfl) (by rfl) (fun v hv => by obtain ⟨s0, s1, s2⟩ := hv; go_simp; try with_reducible rfl) ?_
            try simp only [Act.put, List.setIfInBounds_toArray, List.set_cons_zero, List.set_cons_succ]
            refine restS_take (i := 2) S0.out rfl (by kernel_rfl) (by kernel_rfl) (by kernel_rfl) (by rfl) (fun v hv => by obtain ⟨s0, s1, s2⟩ := hv; go_simp; try with_reducible rfl) ?_
            try simp only [Act.put, List.setIfInBounds_toArray, List.set_cons_zero, List.set_cons_succ]
            refine restS_take (i := 3) S0.out rfl (by kernel_rfl) (by kernel_rfl) (by kernel_rfl) (by rfl) (fun v hv => by obtain ⟨s0, s1, s2⟩ := hv; go_simp; try with_reducible rfl) ?_
            try simp only [Act.put, List.setIfInBounds_toArray, List.set_cons_zero, List.set_cons_succ]
            refine restS_take (i := 5) S0.out rfl (by kernel_rfl) (by kernel_rfl) (by kernel_rfl) (by rfl) (fun v hv => by obtain ⟨s0, s1, s2⟩ := hv; go_simp; try with_reducible rfl) ?_
            try simp only [Act.put, List.setIfInBounds_toArray, List.set_cons_zero, List.set_cons_succ]
            refine restS_take (i := 6) S0.out rfl (by kernel_rfl) (by kernel_rfl) (by kernel_rfl) (by rfl) (fun v hv => by obtain ⟨s0, s1, s2⟩ := hv; go_simp; try with_reducible rfl) ?_
            try simp only [Act.put, List.setIfInBounds_toArray, List.set_cons_zero, List.set_cons_succ]
            refine restS_take (i := 7) S0.out rfl (by kernel_rfl) (by kernel_rfl) (by kernel_rfl) (by rfl) (fun v hv => by obtain ⟨s0, s1, s2⟩ := hv; go_simp; try with_reducible rfl) ?_
            try simp only [Act.put, List.setIfInBounds_toArray, List.set_cons_zero, List.set_cons_succ]
            refine restS_take (i := 8) S0.out rfl (by kernel_rfl) (by kernel_rfl) (by kernel_rfl) (by rfl) (fun v hv => by obtain ⟨s0, s1, s2⟩ := hv; go_simp; try with_reducible rfl) ?_
            try simp only [Act.put, List.setIfInBounds_toArray, List.set_cons_zero, List.set_cons_succ]
            refine restS_lone (i := 4) rfl (by kernel_rfl) (by rfl) (fun K hK => ?_)
            go_simp
            refine (HKt.out).mono ?_
            rintro e v3 ⟨A5, m5, c5, rfl, hm5, hc5, hr5, hg5⟩
            obtain rfl := hm5
            have G3 := Lib.hid hg5
            have S3 := Lib.hid (SX.out v3 hg5)
            have R5 := Lib.hid hr5
            have Q5 := Lib.hid (QZ.out.grow hg5)
            clear hg5 hr5 HKt QZ
            refine hK.out _ _ S3.out ?_
            clear hK K
            try simp only [Act.put, List.setIfInBounds_toArray, List.set_cons_zero, List.set_cons_succ]
            refine restS_lone (i := 9) rfl (by kernel_rfl) (by rfl) (fun K hK => ?_)
            go_simp
            refine (S15.refInts_any (l := keys l1) (l2 := keys l1) (c := c5) (c2 := cx) (n := lk) (n2 := lk) (show S15.RdZ _ _ A5 (keys l1) from R5.out) HKl.out (by have := HK6.out; omega) Q5.out HKl.out (by have := HK6.out; omega)).mono ?_
            rintro e v4 ⟨rfl, hg4⟩
            rw [show decide (keys l1 = keys l1) = true from decide_eq_true rfl]
            have G4 := Lib.hid (G3.out.trans hg4)
            have S4 := Lib.hid (SX.out v4 G4.out)
            clear hg4 R5 Q5 G3 S3
            refine hK.out _ _ S4.out ?_
            clear hK K
            try simp only [Act.put, List.setIfInBounds_toArray, List.set_cons_zero, List.set_cons_succ]
            refine restS_take (i := 10) S4.out rfl (by kernel_rfl) (by kernel_rfl) (by kernel_rfl) (by rfl) (fun v hv => by obtain ⟨s0, s1, s2⟩ := hv; go_simp; try with_reducible rfl) ?_
            try simp only [Act.put, List.setIfInBounds_toArray, List.set_cons_zero, List.set_cons_succ]
            refine restS_take (i := 11) S4.out rfl (by kernel_rfl) (by kernel_rfl) (by kernel_rfl) (by rfl) (fun v hv => by obtain ⟨s0, s1, s2⟩ := hv; go_simp; try with_reducible rfl) ?_
            try simp only [Act.put, List.setIfInBounds_toArray, List.set_cons_zero, List.set_cons_succ]
            refine restS_take (i := 12) S4.out rfl (by kernel_rfl) (by kernel_rfl) (by kernel_rfl) (by rfl) (fun v hv => by obtain ⟨s0, s1, s2⟩ := hv; go_simp; try with_reducible rfl) ?_
            try simp only [Act.put, List.setIfInBounds_toArray, List.set_cons_zero, List.set_cons_succ]
            refine restS_take (i := 13) S4.out rfl (by kernel_rfl) (by kernel_rfl) (by kernel_rfl) (by rfl) (fun v hv => by obtain ⟨s0, s1, s2⟩ := hv; go_simp; try with_reducible rfl) ?_
            try simp only [Act.put, List.setIfInBounds_toArray, List.set_cons_zero, List.set_cons_succ]
            refine restS_take (i := 15) S4.out rfl (by kernel_rfl) (by kernel_rfl) (by kernel_rfl) (by rfl) (fun v hv => by obtain ⟨s0, s1, s2⟩ := hv; go_simp; try with_reducible rfl) ?_
            try simp only [Act.put, List.setIfInBounds_toArray, List.set_cons_zero, List.set_cons_succ]
            refine restS_take (i := 16) S4.out rfl (by kernel_rfl) (by kernel_rfl) (by kernel_rfl) (by rfl) (fun v hv => by obtain ⟨s0, s1, s2⟩ := hv; go_simp; try with_reducible rfl) ?_
            try simp only [Act.put, List.setIfInBounds_toArray, List.set_cons_zero, List.set_cons_succ]
            refine restS_take (i := 17) S4.out rfl (by kernel_rfl) (by kernel_rfl) (by kernel_rfl) (by rfl) (fun v hv => by obtain ⟨s0, s1, s2⟩ := hv; go_simp; try with_reducible rfl) ?_
            try simp only [Act.put, List.setIfInBounds_toArray, List.set_cons_zero, List.set_cons_succ]
            refine restS_take (i := 18) S4.out rfl (by kernel_rfl) (by kernel_rfl) (by kernel_rfl) (by rfl) (fun v hv => by obtain ⟨s0, s1, s2⟩ := hv; go_simp; try with_reducible rfl) ?_
            try simp only [Act.put, List.setIfInBounds_toArray, List.set_cons_zero, List.set_cons_succ]
            refine restS_take (i := 19) S4.out rfl (by kernel_rfl) (by kernel_rfl) (by kernel_rfl) (by rfl) (fun v hv => by obtain ⟨s0, s1, s2⟩ := hv; go_simp; try with_reducible rfl) ?_
            try simp only [Act.put, List.setIfInBounds_toArray, List.set_cons_zero, List.set_cons_succ]
            refine restS_take (i := 20) S4.out rfl (by kernel_rfl) (by kernel_rfl) (by kernel_rfl) (by rfl) (fun v hv => by obtain ⟨s0, s1, s2⟩ := hv; go_simp; try with_reducible rfl) ?_
            try simp only [Act.put, List.setIfInBounds_toArray, List.set_cons_zero, List.set_cons_succ]
            refine restS_take (i := 21) S4.out rfl (by kernel_rfl) (by kernel_rfl) (by kernel_rfl) (by rfl) (fun v hv => by obtain ⟨s0, s1, s2⟩ := hv; go_simp; try with_reducible rfl) ?_
            try simp only [Act.put, List.setIfInBounds_toArray, List.set_cons_zero, List.set_cons_succ]
            refine restS_take (i := 22) S4.out rfl (by kernel_rfl) (by kernel_rfl) (by kernel_rfl) (by rfl) (fun v hv => by obtain ⟨s0, s1, s2⟩ := hv; go_simp; try with_reducible rfl) ?_
            try simp only [Act.put, List.setIfInBounds_toArray, List.set_cons_zero, List.set_cons_succ]
            refine restS_lone (i := 14) rfl (by kernel_rfl) (by rfl) (fun K hK => ?_)
            go_simp
            refine (HWt.out v4 G4.out).mono ?_
            rintro e v5 ⟨rfl, hg5⟩
            have G5 := Lib.hid (G4.out.trans hg5)
            have S5 := Lib.hid (SX.out v5 G5.out)
            have Z9 := Lib.hid (ZT.out.grow (pcKeeps KKC.out.kept (devKp KK.out) G H room l1 st1) (pcKeeps (rcKept w.heap.size) (rdKept w.heap.size) Q R room l1 st1) G5.out)
            clear hg5 G4 S4
            refine hK.out _ _ S5.out ?_
            clear hK K
            try simp only [Act.put, List.setIfInBounds_toArray, List.set_cons_zero, List.set_cons_succ]
            refine restS_take (i := 23) S5.out rfl (by kernel_rfl) (by kernel_rfl) (by kernel_rfl) (by rfl) (fun v hv => by obtain ⟨s0, s1, s2⟩ := hv; go_simp; try with_reducible rfl) ?_
            try simp only [Act.put, List.setIfInBounds_toArray, List.set_cons_zero, List.set_cons_succ]
            refine restS_take (i := 24) S5.out rfl (by kernel_rfl) (by kernel_rfl) (by kernel_rfl) (by rfl) (fun v hv => by obtain ⟨s0, s1, s2⟩ := hv; go_simp; try with_reducible rfl) ?_
            try simp only [Act.put, List.setIfInBounds_toArray, List.set_cons_zero, List.set_cons_succ]
            refine restS_take (i := 25) S5.out rfl (by kernel_rfl) (by kernel_rfl) (by kernel_rfl) (by rfl) (fun v hv => by obtain ⟨s0, s1, s2⟩ := hv; go_simp; try with_reducible rfl) ?_
            try simp only [Act.put, List.setIfInBounds_toArray, List.set_cons_zero, List.set_cons_succ]
            refine restS_take (i := 26) S5.out rfl (by kernel_rfl) (by kernel_rfl) (by kernel_rfl) (by rfl) (fun v hv => by obtain ⟨s0, s1, s2⟩ := hv; go_simp; try with_reducible rfl) ?_
            try simp only [Act.put, List.setIfInBounds_toArray, List.set_cons_zero, List.set_cons_succ]
            refine restS_take (i := 27) S5.out rfl (by kernel_rfl) (by kernel_rfl) (by kernel_rfl) (by rfl) (fun v hv => by obtain ⟨s0, s1, s2⟩ := hv; go_simp; try with_reducible rfl) ?_
            try simp only [Act.put, List.setIfInBounds_toArray, List.set_cons_zero, List.set_cons_succ]
            refine restS_take (i := 28) S5.out rfl (by kernel_rfl) (by kernel_rfl) (by kernel_rfl) (by rfl) (fun v hv => by obtain ⟨s0, s1, s2⟩ := hv; go_simp; try with_reducible rfl) ?_
            try simp only [Act.put, List.setIfInBounds_toArray, List.set_cons_zero, List.set_cons_succ]
            refine restS_take (i := 29) S5.out rfl (by kernel_rfl) (by kernel_rfl) (by kernel_rfl) (by rfl) (fun v hv => by obtain ⟨s0, s1, s2⟩ := hv; go_simp; try with_reducible rfl) ?_
            try simp only [Act.put, List.setIfInBounds_toArray, List.set_cons_zero, List.set_cons_succ]
            refine restS_take (i := 30) S5.out rfl (by kernel_rfl) (by kernel_rfl) (by kernel_rfl) (by rfl) (fun v hv => by obtain ⟨s0, s1, s2⟩ := hv; go_simp; try with_reducible rfl) ?_
            try simp only [Act.put, List.setIfInBounds_toArray, List.set_cons_zero, List.set_cons_succ]
            refine restS_take (i := 31) S5.out rfl (by kernel_rfl) (by kernel_rfl) (by kernel_rfl) (by rfl) (fun v hv => by obtain ⟨s0, s1, s2⟩ := hv; go_simp; try with_reducible rfl) ?_
            try simp only [Act.put, List.setIfInBounds_toArray, List.set_cons_zero, List.set_cons_succ]
            refine restS_take (i := 32) S5.out rfl (by kernel_rfl) (by kernel_rfl) (by kernel_rfl) (by rfl) (fun v hv => by obtain ⟨s0, s1, s2⟩ := hv; go_simp; try with_reducible rfl) ?_
            try simp only [Act.put, List.setIfInBounds_toArray, List.set_cons_zero, List.set_cons_succ]
            refine restS_take (i := 33) S5.out rfl (by kernel_rfl) (by kernel_rfl) (by kernel_rfl) (by rfl) (fun v hv => by obtain ⟨s0, s1, s2⟩ := hv; go_simp; try with_reducible rfl) ?_
            try simp only [Act.put, List.setIfInBounds_toArray, List.set_cons_zero, List.set_cons_succ]
            refine restS_done (by kernel_rfl) ?_
            clear S0 S5 SX HWt
            go_wp2
            exact ⟨⟨i + 1, FP, FR, l1, st1, by first | rfl | simp | go_num, by omega, HN1.out, Z9.out⟩, by simp [intOf]; omega⟩
          · obtain rfl : mx = 512 := by
              rcases HLX.out with h1 | h1
              · exact absurd h1 hl0
              · rw [← hx1, h1]
            obtain ⟨g, tt, cur, hg1, hg2, hg3, hg4, hg5⟩ : ∃ g tt cur, Ax = some ⟨g, 0, none⟩ ∧ _ := by
              rcases OX.out.form with ⟨_, h1, _⟩ | h1
              · exact absurd h1 hl0
              · exact h1
            have BX := hb2 g _ ⟨hg3, HX.out _ hg1, fun hf => by have := FA.out g hf; omega⟩
            have hrd : Rd v2 v2.heap.size Ax lx := by
              rcases OX.out.rd with h1 | ⟨b', off', h1, h3, h4⟩
              · exact .inl h1
              · have : b' = g := by rw [hg1] at h1; simp only [Option.some.injEq, Addr.mk.injEq] at h1; exact h1.1.symm
                subst this
                exact .inr ⟨b', off', h1, lt_of_heap BX.1, fun j hj => by rw [World.cell?_of_block (a := ⟨b', off' + j, none⟩) (BX.1.trans hg3.symm)]; exact h4 j hj⟩
            have hcv := conv hrd cx
            rw [hx1] at hcv
            obtain ⟨b', off', e1, _, hc0⟩ := hrd.at_ (k := 0) (by rw [hx1]; omega)
            rw [hg1] at e1
            simp only [Option.some.injEq, Addr.mk.injEq] at e1
            obtain ⟨rfl, rfl, _⟩ := e1
            have hf0 : v2.frozen? ⟨g, 0, none⟩ = false := frozen_of_row v2 g 0 _ _ BX.1
            subst hg1
            rw [Nat.add_zero] at hc0
            generalize (lx[0]).toNat = x0 at hc0
            have HBE := Lib.hid (fun u => hz2.beside (pcKeeps KKC.out.kept (devKp KK.out) G H room l1 st1) (pcKeeps (rcKept w.heap.size) (rdKept w.heap.size) Q R room l1 st1) BX.2.1 BX.2.2 (Nat.le_trans WX.out hg2) 0 u)
            clear hz2 hb2 Z1 B1 HP HR HX OX FA WX hx1 hx2 hrd BX hg2 hg3 hg4 hg5 hl0
            go_wp2_with fail
            clear hcv hc0 hf0
            generalize hvz : v2.setCell _ _ = vz
            have ZZ := Lib.hid (show Sd (Pc D C G H room l1 st1) (Pc (RD w.heap.size) (RC w.heap.size) Q R room l1 st1) w vz FP FR by rw [← hvz]; exact HBE.out _)
            clear hvz HBE
            generalize hvd : vz.drew = vd
            have ZT := Lib.hid (show Sd (Pc D C G H room l1 st1) (Pc (RD w.heap.size) (RC w.heap.size) Q R room l1 st1) w vd FP FR by rw [← hvd]; exact ZZ.out.grow (pcKeeps KKC.out.kept (devKp KK.out) G H room l1 st1) (pcKeeps (rcKept w.heap.size) (rdKept w.heap.size) Q R room l1 st1) ((Below.refl _ vz).drew))
            obtain ⟨Ax, cx, Ay, cy, q0, q2, qz, qc, q1, _, _, hQl, hRl⟩ := qCells ZT.out.q
            obtain ⟨lk, hlk⟩ : ∃ lk, lk = l1.length := ⟨_, rfl⟩
            obtain ⟨pc, hpc⟩ : ∃ pc, pc = st1.pend.length := ⟨_, rfl⟩
            have HKt := Lib.hid (KKC.out.keeps vd G H FP room l1 st1 ZT.out.p (by rw [HN1.out.len]; exact HN1.out.ko) (by rw [HN1.out.len]; omega))
            have HWt := Lib.hid (fun (v : World) (hv : Grown vd v) => show Calls Try.prog 28 #[.pointer (some ⟨H, 0, none⟩)] v fun e w' => e = .returned (.int .i64 (st1.pend.length : Int)) ∧ Grown v w' by
              obtain ⟨Fc, Fd, hc, hd, ha, hF⟩ := (ZT.out.grow (pcKeeps KKC.out.kept (devKp KK.out) G H room l1 st1) (pcKeeps (rcKept w.heap.size) (rdKept w.heap.size) Q R room l1 st1) hv).p
              exact KK.out.waits v H Fd st1 (i + 1) hd HN1.out.ok (by omega))
            have HKl := Lib.hid (show (keys l1).length = lk by rw [keys_len, hlk])
            have HK6 := Lib.hid (show lk ≤ 6 by rw [hlk]; exact HN1.out.ko.few)
            have hlr : ¬ (lk : Int) > (room : Int) := by have := HN1.out.ko.room; omega
            have QZ := Lib.hid qz
            rw [← hlk] at q2 HKt
            rw [← hpc] at q1 qc HWt
            have SX := Lib.hid (show ∀ v : World, Grown vd v → v.cell? ⟨Q, 0, none⟩ = some (.pointer (some ⟨R, 0, none⟩)) ∧ v.cell? ⟨Q, 2, none⟩ = some (.slice Ax lk cx) ∧ v.cell? ⟨R, 1, none⟩ = some (.slice Ay pc cy) from fun v hv => ⟨(hv.cell (p := ⟨Q, 0, none⟩) hQl).trans q0, (hv.cell (p := ⟨Q, 2, none⟩) hQl).trans q2, (hv.cell (p := ⟨R, 1, none⟩) hRl).trans q1⟩)
            have S0 := Lib.hid (SX.out vd (Grown.refl _))
            clear hlk hpc q0 q1 q2 qz hQl hRl ZZ
            refine restS_begin (fun v : World => v.cell? ⟨Q, 0, none⟩ = some (.pointer (some ⟨R, 0, none⟩)) ∧ v.cell? ⟨Q, 2, none⟩ = some (.slice Ax lk cx) ∧ v.cell? ⟨R, 1, none⟩ = some (.slice Ay pc cy)) (by kernel_rfl) ?_
            rw [hvd]
            clear hvd
            refine restS_take (i := 0) S0.out rfl (by kernel_rfl) (by kernel_rfl) (by kernel_rfl) (by rfl) (fun v hv => by obtain ⟨s0, s1, s2⟩ := hv; go_simp; try with_reducible rfl) ?_
            try simp only [Act.put, List.setIfInBounds_toArray, List.set_cons_zero, List.set_cons_succ]
            refine restS_take (i := 1) S0.out rfl (by kernel_rfl) (by kernel_rfl) (by kernel_rfl) (by rfl) (fun v hv => by obtain ⟨s0, s1, s2⟩ := hv; go_simp; try with_reducible rfl) ?_
            try simp only [Act.put, List.setIfInBounds_toArray, List.set_cons_zero, List.set_cons_succ]
            refine restS_take (i := 2) S0.out rfl (by kernel_rfl) (by kernel_rfl) (by kernel_rfl) (by rfl) (fun v hv => by obtain ⟨s0, s1, s2⟩ := hv; go_simp; try with_reducible rfl) ?_
            try simp only [Act.put, List.setIfInBounds_toArray, List.set_cons_zero, List.set_cons_succ]
            refine restS_take (i := 3) S0.out rfl (by kernel_rfl) (by kernel_rfl) (by kernel_rfl) (by rfl) (fun v hv => by obtain ⟨s0, s1, s2⟩ := hv; go_simp; try with_reducible rfl) ?_
            try simp only [Act.put, List.setIfInBounds_toArray, List.set_cons_zero, List.set_cons_succ]
            refine restS_take (i := 5) S0.out rfl (by kernel_rfl) (by kernel_rfl) (by kernel_rfl) (by rfl) (fun v hv => by obtain ⟨s0, s1, s2⟩ := hv; go_simp; try with_reducible rfl) ?_
            try simp only [Act.put, List.setIfInBounds_toArray, List.set_cons_zero, List.set_cons_succ]
            refine restS_take (i := 6) S0.out rfl (by kernel_rfl) (by kernel_rfl) (by kernel_rfl) (by rfl) (fun v hv => by obtain ⟨s0, s1, s2⟩ := hv; go_simp; try with_reducible rfl) ?_
            try simp only [Act.put, List.setIfInBounds_toArray, List.set_cons_zero, List.set_cons_succ]
            refine restS_take (i := 7) S0.out rfl (by kernel_rfl) (by kernel_rfl) (by kernel_rfl) (by rfl) (fun v hv => by obtain ⟨s0, s1, s2⟩ := hv; go_simp; try with_reducible rfl) ?_
            try simp only [Act.put, List.setIfInBounds_toArray, List.set_cons_zero, List.set_cons_succ]
            refine restS_take (i := 8) S0.out rfl (by kernel_rfl) (by kernel_rfl) (by kernel_rfl) (by rfl) (fun v hv => by obtain ⟨s0, s1, s2⟩ := hv; go_simp; try with_reducible rfl) ?_
            try simp only [Act.put, List.setIfInBounds_toArray, List.set_cons_zero, List.set_cons_succ]
            refine restS_lone (i := 4) rfl (by kernel_rfl) (by rfl) (fun K hK => ?_)
            go_simp
            refine (HKt.out).mono ?_
            rintro e v3 ⟨A5, m5, c5, rfl, hm5, hc5, hr5, hg5⟩
            obtain rfl := hm5
            have G3 := Lib.hid hg5
            have S3 := Lib.hid (SX.out v3 hg5)
            have R5 := Lib.hid hr5
            have Q5 := Lib.hid (QZ.out.grow hg5)
            clear hg5 hr5 HKt QZ
            refine hK.out _ _ S3.out ?_
            clear hK K
            try simp only [Act.put, List.setIfInBounds_toArray, List.set_cons_zero, List.set_cons_succ]
            refine restS_lone (i := 9) rfl (by kernel_rfl) (by rfl) (fun K hK => ?_)
            go_simp
            refine (S15.refInts_any (l := keys l1) (l2 := keys l1) (c := c5) (c2 := cx) (n := lk) (n2 := lk) (show S15.RdZ _ _ A5 (keys l1) from R5.out) HKl.out (by have := HK6.out; omega) Q5.out HKl.out (by have := HK6.out; omega)).mono ?_
            rintro e v4 ⟨rfl, hg4⟩
            rw [show decide (keys l1 = keys l1) = true from decide_eq_true rfl]
            have G4 := Lib.hid (G3.out.trans hg4)
            have S4 := Lib.hid (SX.out v4 G4.out)
            clear hg4 R5 Q5 G3 S3
            refine hK.out _ _ S4.out ?_
            clear hK K
            try simp only [Act.put, List.setIfInBounds_toArray, List.set_cons_zero, List.set_cons_succ]
            refine restS_take (i := 10) S4.out rfl (by kernel_rfl) (by kernel_rfl) (by kernel_rfl) (by rfl) (fun v hv => by obtain ⟨s0, s1, s2⟩ := hv; go_simp; try with_reducible rfl) ?_
            try simp only [Act.put, List.setIfInBounds_toArray, List.set_cons_zero, List.set_cons_succ]
            refine restS_take (i := 11) S4.out rfl (by kernel_rfl) (by kernel_rfl) (by kernel_rfl) (by rfl) (fun v hv => by obtain ⟨s0, s1, s2⟩ := hv; go_simp; try with_reducible rfl) ?_
            try simp only [Act.put, List.setIfInBounds_toArray, List.set_cons_zero, List.set_cons_succ]
            refine restS_take (i := 12) S4.out rfl (by kernel_rfl) (by kernel_rfl) (by kernel_rfl) (by rfl) (fun v hv => by obtain ⟨s0, s1, s2⟩ := hv; go_simp; try with_reducible rfl) ?_
            try simp only [Act.put, List.setIfInBounds_toArray, List.set_cons_zero, List.set_cons_succ]
            refine restS_take (i := 13) S4.out rfl (by kernel_rfl) (by kernel_rfl) (by kernel_rfl) (by rfl) (fun v hv => by obtain ⟨s0, s1, s2⟩ := hv; go_simp; try with_reducible rfl) ?_
            try simp only [Act.put, List.setIfInBounds_toArray, List.set_cons_zero, List.set_cons_succ]
            refine restS_take (i := 15) S4.out rfl (by kernel_rfl) (by kernel_rfl) (by kernel_rfl) (by rfl) (fun v hv => by obtain ⟨s0, s1, s2⟩ := hv; go_simp; try with_reducible rfl) ?_
            try simp only [Act.put, List.setIfInBounds_toArray, List.set_cons_zero, List.set_cons_succ]
            refine restS_take (i := 16) S4.out rfl (by kernel_rfl) (by kernel_rfl) (by kernel_rfl) (by rfl) (fun v hv => by obtain ⟨s0, s1, s2⟩ := hv; go_simp; try with_reducible rfl) ?_
            try simp only [Act.put, List.setIfInBounds_toArray, List.set_cons_zero, List.set_cons_succ]
            refine restS_take (i := 17) S4.out rfl (by kernel_rfl) (by kernel_rfl) (by kernel_rfl) (by rfl) (fun v hv => by obtain ⟨s0, s1, s2⟩ := hv; go_simp; try with_reducible rfl) ?_
            try simp only [Act.put, List.setIfInBounds_toArray, List.set_cons_zero, List.set_cons_succ]
            refine restS_take (i := 18) S4.out rfl (by kernel_rfl) (by kernel_rfl) (by kernel_rfl) (by rfl) (fun v hv => by obtain ⟨s0, s1, s2⟩ := hv; go_simp; try with_reducible rfl) ?_
            try simp only [Act.put, List.setIfInBounds_toArray, List.set_cons_zero, List.set_cons_succ]
            refine restS_take (i := 19) S4.out rfl (by kernel_rfl) (by kernel_rfl) (by kernel_rfl) (by rfl) (fun v hv => by obtain ⟨s0, s1, s2⟩ := hv; go_simp; try with_reducible rfl) ?_
            try simp only [Act.put, List.setIfInBounds_toArray, List.set_cons_zero, List.set_cons_succ]
            refine restS_take (i := 20) S4.out rfl (by kernel_rfl) (by kernel_rfl) (by kernel_rfl) (by rfl) (fun v hv => by obtain ⟨s0, s1, s2⟩ := hv; go_simp; try with_reducible rfl) ?_
            try simp only [Act.put, List.setIfInBounds_toArray, List.set_cons_zero, List.set_cons_succ]
            refine restS_take (i := 21) S4.out rfl (by kernel_rfl) (by kernel_rfl) (by kernel_rfl) (by rfl) (fun v hv => by obtain ⟨s0, s1, s2⟩ := hv; go_simp; try with_reducible rfl) ?_
            try simp only [Act.put, List.setIfInBounds_toArray, List.set_cons_zero, List.set_cons_succ]
            refine restS_take (i := 22) S4.out rfl (by kernel_rfl) (by kernel_rfl) (by kernel_rfl) (by rfl) (fun v hv => by obtain ⟨s0, s1, s2⟩ := hv; go_simp; try with_reducible rfl) ?_
            try simp only [Act.put, List.setIfInBounds_toArray, List.set_cons_zero, List.set_cons_succ]
            refine restS_lone (i := 14) rfl (by kernel_rfl) (by rfl) (fun K hK => ?_)
            go_simp
            refine (HWt.out v4 G4.out).mono ?_
            rintro e v5 ⟨rfl, hg5⟩
            have G5 := Lib.hid (G4.out.trans hg5)
            have S5 := Lib.hid (SX.out v5 G5.out)
            have Z9 := Lib.hid (ZT.out.grow (pcKeeps KKC.out.kept (devKp KK.out) G H room l1 st1) (pcKeeps (rcKept w.heap.size) (rdKept w.heap.size) Q R room l1 st1) G5.out)
            clear hg5 G4 S4
            refine hK.out _ _ S5.out ?_
            clear hK K
            try simp only [Act.put, List.setIfInBounds_toArray, List.set_cons_zero, List.set_cons_succ]
            refine restS_take (i := 23) S5.out rfl (by kernel_rfl) (by kernel_rfl) (by kernel_rfl) (by rfl) (fun v hv => by obtain ⟨s0, s1, s2⟩ := hv; go_simp; try with_reducible rfl) ?_
            try simp only [Act.put, List.setIfInBounds_toArray, List.set_cons_zero, List.set_cons_succ]
            refine restS_take (i := 24) S5.out rfl (by kernel_rfl) (by kernel_rfl) (by kernel_rfl) (by rfl) (fun v hv => by obtain ⟨s0, s1, s2⟩ := hv; go_simp; try with_reducible rfl) ?_
            try simp only [Act.put, List.setIfInBounds_toArray, List.set_cons_zero, List.set_cons_succ]
            refine restS_take (i := 25) S5.out rfl (by kernel_rfl) (by kernel_rfl) (by kernel_rfl) (by rfl) (fun v hv => by obtain ⟨s0, s1, s2⟩ := hv; go_simp; try with_reducible rfl) ?_
            try simp only [Act.put, List.setIfInBounds_toArray, List.set_cons_zero, List.set_cons_succ]
            refine restS_take (i := 26) S5.out rfl (by kernel_rfl) (by kernel_rfl) (by kernel_rfl) (by rfl) (fun v hv => by obtain ⟨s0, s1, s2⟩ := hv; go_simp; try with_reducible rfl) ?_
            try simp only [Act.put, List.setIfInBounds_toArray, List.set_cons_zero, List.set_cons_succ]
            refine restS_take (i := 27) S5.out rfl (by kernel_rfl) (by kernel_rfl) (by kernel_rfl) (by rfl) (fun v hv => by obtain ⟨s0, s1, s2⟩ := hv; go_simp; try with_reducible rfl) ?_
            try simp only [Act.put, List.setIfInBounds_toArray, List.set_cons_zero, List.set_cons_succ]
            refine restS_take (i := 28) S5.out rfl (by kernel_rfl) (by kernel_rfl) (by kernel_rfl) (by rfl) (fun v hv => by obtain ⟨s0, s1, s2⟩ := hv; go_simp; try with_reducible rfl) ?_
            try simp only [Act.put, List.setIfInBounds_toArray, List.set_cons_zero, List.set_cons_succ]
            refine restS_take (i := 29) S5.out rfl (by kernel_rfl) (by kernel_rfl) (by kernel_rfl) (by rfl) (fun v hv => by obtain ⟨s0, s1, s2⟩ := hv; go_simp; try with_reducible rfl) ?_
            try simp only [Act.put, List.setIfInBounds_toArray, List.set_cons_zero, List.set_cons_succ]
            refine restS_take (i := 30) S5.out rfl (by kernel_rfl) (by kernel_rfl) (by kernel_rfl) (by rfl) (fun v hv => by obtain ⟨s0, s1, s2⟩ := hv; go_simp; try with_reducible rfl) ?_
            try simp only [Act.put, List.setIfInBounds_toArray, List.set_cons_zero, List.set_cons_succ]
            refine restS_take (i := 31) S5.out rfl (by kernel_rfl) (by kernel_rfl) (by kernel_rfl) (by rfl) (fun v hv => by obtain ⟨s0, s1, s2⟩ := hv; go_simp; try with_reducible rfl) ?_
            try simp only [Act.put, List.setIfInBounds_toArray, List.set_cons_zero, List.set_cons_succ]
            refine restS_take (i := 32) S5.out rfl (by kernel_rfl) (by kernel_rfl) (by kernel_rfl) (by rfl) (fun v hv => by obtain ⟨s0, s1, s2⟩ := hv; go_simp; try with_reducible rfl) ?_
            try simp only [Act.put, List.setIfInBounds_toArray, List.set_cons_zero, List.set_cons_succ]
            refine restS_take (i := 33) S5.out rfl (by kernel_rfl) (by kernel_rfl) (by kernel_rfl) (by rfl) (fun v hv => by obtain ⟨s0, s1, s2⟩ := hv; go_simp; try with_reducible rfl) ?_
            try simp only [Act.put, List.setIfInBounds_toArray, List.set_cons_zero, List.set_cons_succ]
            refine restS_done (by kernel_rfl) ?_
            clear S0 S5 SX HWt
            go_wp2
            exact ⟨⟨i + 1, FP, FR, l1, st1, by first | rfl | simp | go_num, by omega, HN1.out, Z9.out⟩, by simp [intOf]; omega⟩
      · as_aux_lemma =>
          have ZA := Lib.hid (HZ.out.grow (pcKeeps KKC.out.kept (devKp KK.out) G H room l dv) (pcKeeps (rcKept w.heap.size) (rdKept w.heap.size) Q R room l dv) (alloc_below wr (acO 2 at_ nn Ab nb cb Ak nk ck)))
          have BA := Lib.hid (show Bs (wr.alloc (acO 2 at_ nn Ab nb cb Ak nk ck)) F F2 wr.heap.size (acO 2 at_ nn Ab nb cb Ak nk ck) from bsNew HZ.out _)
          clear HZ
          obtain ⟨l1, hl1⟩ : ∃ l1 : Ka, l1 = kaDrop l at_ := ⟨_, rfl⟩
          have HN1 := Lib.hid (show KNum 6 room l1 dv (i + 1) by rw [hl1]; exact (HN.out.drop at_).up (by omega))
          have HR := Lib.hid (fun (v : World) (FP : Nat → Prop) (hv : Sd (Pc D C G H room l1 dv) (Pc (RD w.heap.size) (RC w.heap.size) Q R room l dv) w v FP F2) => qDropC hv.q (by have := HN.out.ko.few; omega) at_)
          rw [← hl1] at HR
          have HL1 := Lib.hid hl1
          clear hl1
          go_wp2_with fail
          have hsA : (wr.alloc (acO 2 at_ nn Ab nb cb Ak nk ck)).heap.size = wr.heap.size + 1 := by simp
          rw [← hsA]
          clear hsA
          obtain ⟨a, ha⟩ : ∃ a, a = wr.heap.size := ⟨_, rfl⟩
          rw [← ha] at BA ⊢
          clear ha d0 d1 d2 d3 d4
          generalize wr.alloc _ = va at ZA BA ⊢
          have ZB := Lib.hid (ZA.out.grow (pcKeeps KKC.out.kept (devKp KK.out) G H room l dv) (pcKeeps (rcKept w.heap.size) (rdKept w.heap.size) Q R room l dv) (alloc_below va (.cells #[.int .i64 at_] 3)))
          have BB := Lib.hid (BA.out.grow (alloc_below va (.cells #[.int .i64 at_] 3)))
          refine (KKC.out.drop _ G H F room l dv at_ (some ⟨va.heap.size, 0, none⟩) 1 ZB.out.p (by rw [HN.out.len]; exact HN.out.ko) (by rw [HN.out.len]; omega) (.inr ⟨_, 0, rfl, by simp, fun j hj => ?_⟩) (Nat.le_refl _) (fun x hx hf => ?_)).mono ?_
          · obtain rfl : j = 0 := by simp at hj; omega
            exact cellNew va _ _
          · simp only [Option.some.injEq] at hx
            subst hx
            have := (ZA.out.pf _ hf).2
            simp at this
          rintro e v1 ⟨rfl, FP, hcd, hb, hc⟩
          rw [← HL1.out] at hcd
          clear ZA BA HL1
          have hs1 := ZB.out.step (P' := Pc D C G H room l1 dv) (pcKeeps (rcKept w.heap.size) (rdKept w.heap.size) Q R room l dv) hcd (hcd.foot KKC.out.kept (devKp KK.out)) hb hc
          have Z1 := Lib.hid hs1.1
          have B1 := Lib.hid (hs1.2 _ _ BB.out)
          clear hcd hb hc hs1 ZB BB
          obtain ⟨s0, s1, s2, s3, s4⟩ := sa_of B1.out
          go_wp2_with fail
          clear s0 s1 s2 s3 s4
          refine (HR.out v1 FP Z1.out).mono ?_
          rintro e vz ⟨rfl, FR, hcd, hb, hc⟩
          have hs1 := Z1.out.swap.step (P' := Pc (RD w.heap.size) (RC w.heap.size) Q R room l1 dv) (pcKeeps KKC.out.kept (devKp KK.out) G H room l1 dv) hcd (hcd.foot (rcKept w.heap.size) (rdKept w.heap.size)) hb hc
          have ZZ := Lib.hid hs1.1.swap
          have BZ := Lib.hid (S14.Bs.swap (hs1.2 _ _ (S14.Bs.swap B1.out)))
          clear hcd hb hc hs1 Z1 B1 HR
          clear BZ
          go_wp2_with fail
          generalize hvd : vz.drew = vd
          have ZT := Lib.hid (show Sd (Pc D C G H room l1 dv) (Pc (RD w.heap.size) (RC w.heap.size) Q R room l1 dv) w vd FP FR by rw [← hvd]; exact ZZ.out.grow (pcKeeps KKC.out.kept (devKp KK.out) G H room l1 dv) (pcKeeps (rcKept w.heap.size) (rdKept w.heap.size) Q R room l1 dv) ((Below.refl _ vz).drew))
          obtain ⟨Ax, cx, Ay, cy, q0, q2, qz, qc, q1, _, _, hQl, hRl⟩ := qCells ZT.out.q
          obtain ⟨lk, hlk⟩ : ∃ lk, lk = l1.length := ⟨_, rfl⟩
          obtain ⟨pc, hpc⟩ : ∃ pc, pc = dv.pend.length := ⟨_, rfl⟩
          have HKt := Lib.hid (KKC.out.keeps vd G H FP room l1 dv ZT.out.p (by rw [HN1.out.len]; exact HN1.out.ko) (by rw [HN1.out.len]; omega))
          have HWt := Lib.hid (fun (v : World) (hv : Grown vd v) => show Calls Try.prog 28 #[.pointer (some ⟨H, 0, none⟩)] v fun e w' => e = .returned (.int .i64 (dv.pend.length : Int)) ∧ Grown v w' by
            obtain ⟨Fc, Fd, hc, hd, ha, hF⟩ := (ZT.out.grow (pcKeeps KKC.out.kept (devKp KK.out) G H room l1 dv) (pcKeeps (rcKept w.heap.size) (rdKept w.heap.size) Q R room l1 dv) hv).p
            exact KK.out.waits v H Fd dv (i + 1) hd HN1.out.ok (by omega))
          have HKl := Lib.hid (show (keys l1).length = lk by rw [keys_len, hlk])
          have HK6 := Lib.hid (show lk ≤ 6 by rw [hlk]; exact HN1.out.ko.few)
          have hlr : ¬ (lk : Int) > (room : Int) := by have := HN1.out.ko.room; omega
          have QZ := Lib.hid qz
          rw [← hlk] at q2 HKt
          rw [← hpc] at q1 qc HWt
          have SX := Lib.hid (show ∀ v : World, Grown vd v → v.cell? ⟨Q, 0, none⟩ = some (.pointer (some ⟨R, 0, none⟩)) ∧ v.cell? ⟨Q, 2, none⟩ = some (.slice Ax lk cx) ∧ v.cell? ⟨R, 1, none⟩ = some (.slice Ay pc cy) from fun v hv => ⟨(hv.cell (p := ⟨Q, 0, none⟩) hQl).trans q0, (hv.cell (p := ⟨Q, 2, none⟩) hQl).trans q2, (hv.cell (p := ⟨R, 1, none⟩) hRl).trans q1⟩)
          have S0 := Lib.hid (SX.out vd (Grown.refl _))
          clear hlk hpc q0 q1 q2 qz hQl hRl ZZ
          refine restS_begin (fun v : World => v.cell? ⟨Q, 0, none⟩ = some (.pointer (some ⟨R, 0, none⟩)) ∧ v.cell? ⟨Q, 2, none⟩ = some (.slice Ax lk cx) ∧ v.cell? ⟨R, 1, none⟩ = some (.slice Ay pc cy)) (by kernel_rfl) ?_
          rw [hvd]
          clear hvd
          refine restS_take (i := 0) S0.out rfl (by kernel_rfl) (by kernel_rfl) (by kernel_rfl) (by rfl) (fun v hv => by obtain ⟨s0, s1, s2⟩ := hv; go_simp; try with_reducible rfl) ?_
          try simp only [Act.put, List.setIfInBounds_toArray, List.set_cons_zero, List.set_cons_succ]
          refine restS_take (i := 1) S0.out rfl (by kernel_rfl) (by kernel_rfl) (by kernel_rfl) (by rfl) (fun v hv => by obtain ⟨s0, s1, s2⟩ := hv; go_simp; try with_reducible rfl) ?_
          try simp only [Act.put, List.setIfInBounds_toArray, List.set_cons_zero, List.set_cons_succ]
          refine restS_take (i := 2) S0.out rfl (by kernel_rfl) (by kernel_rfl) (by kernel_rfl) (by rfl) (fun v hv => by obtain ⟨s0, s1, s2⟩ := hv; go_simp; try with_reducible rfl) ?_
          try simp only [Act.put, List.setIfInBounds_toArray, List.set_cons_zero, List.set_cons_succ]
          refine restS_take (i := 3) S0.out rfl (by kernel_rfl) (by kernel_rfl) (by kernel_rfl) (by rfl) (fun v hv => by obtain ⟨s0, s1, s2⟩ := hv; go_simp; try with_reducible rfl) ?_
          try simp only [Act.put, List.setIfInBounds_toArray, List.set_cons_zero, List.set_cons_succ]
          refine restS_take (i := 5) S0.out rfl (by kernel_rfl) (by kernel_rfl) (by kernel_rfl) (by rfl) (fun v hv => by obtain ⟨s0, s1, s2⟩ := hv; go_simp; try with_reducible rfl) ?_
          try simp only [Act.put, List.setIfInBounds_toArray, List.set_cons_zero, List.set_cons_succ]
          refine restS_take (i := 6) S0.out rfl (by kernel_rfl) (by kernel_rfl) (by kernel_rfl) (by rfl) (fun v hv => by obtain ⟨s0, s1, s2⟩ := hv; go_simp; try with_reducible rfl) ?_
          try simp only [Act.put, List.setIfInBounds_toArray, List.set_cons_zero, List.set_cons_succ]
          refine restS_take (i := 7) S0.out rfl (by kernel_rfl) (by kernel_rfl) (by kernel_rfl) (by rfl) (fun v hv => by obtain ⟨s0, s1, s2⟩ := hv; go_simp; try with_reducible rfl) ?_
          try simp only [Act.put, List.setIfInBounds_toArray, List.set_cons_zero, List.set_cons_succ]
          refine restS_take (i := 8) S0.out rfl (by kernel_rfl) (by kernel_rfl) (by kernel_rfl) (by rfl) (fun v hv => by obtain ⟨s0, s1, s2⟩ := hv; go_simp; try with_reducible rfl) ?_
          try simp only [Act.put, List.setIfInBounds_toArray, List.set_cons_zero, List.set_cons_succ]
          refine restS_lone (i := 4) rfl (by kernel_rfl) (by rfl) (fun K hK => ?_)
          go_simp
          refine (HKt.out).mono ?_
          rintro e v3 ⟨A5, m5, c5, rfl, hm5, hc5, hr5, hg5⟩
          obtain rfl := hm5
          have G3 := Lib.hid hg5
          have S3 := Lib.hid (SX.out v3 hg5)
          have R5 := Lib.hid hr5
          have Q5 := Lib.hid (QZ.out.grow hg5)
          clear hg5 hr5 HKt QZ
          refine hK.out _ _ S3.out ?_
          clear hK K
          try simp only [Act.put, List.setIfInBounds_toArray, List.set_cons_zero, List.set_cons_succ]
          refine restS_lone (i := 9) rfl (by kernel_rfl) (by rfl) (fun K hK => ?_)
          go_simp
          refine (S15.refInts_any (l := keys l1) (l2 := keys l1) (c := c5) (c2 := cx) (n := lk) (n2 := lk) (show S15.RdZ _ _ A5 (keys l1) from R5.out) HKl.out (by have := HK6.out; omega) Q5.out HKl.out (by have := HK6.out; omega)).mono ?_
          rintro e v4 ⟨rfl, hg4⟩
          rw [show decide (keys l1 = keys l1) = true from decide_eq_true rfl]
          have G4 := Lib.hid (G3.out.trans hg4)
          have S4 := Lib.hid (SX.out v4 G4.out)
          clear hg4 R5 Q5 G3 S3
          refine hK.out _ _ S4.out ?_
          clear hK K
          try simp only [Act.put, List.setIfInBounds_toArray, List.set_cons_zero, List.set_cons_succ]
          refine restS_take (i := 10) S4.out rfl (by kernel_rfl) (by kernel_rfl) (by kernel_rfl) (by rfl) (fun v hv => by obtain ⟨s0, s1, s2⟩ := hv; go_simp; try with_reducible rfl) ?_
          try simp only [Act.put, List.setIfInBounds_toArray, List.set_cons_zero, List.set_cons_succ]
          refine restS_take (i := 11) S4.out rfl (by kernel_rfl) (by kernel_rfl) (by kernel_rfl) (by rfl) (fun v hv => by obtain ⟨s0, s1, s2⟩ := hv; go_simp; try with_reducible rfl) ?_
          try simp only [Act.put, List.setIfInBounds_toArray, List.set_cons_zero, List.set_cons_succ]
          refine restS_take (i := 12) S4.out rfl (by kernel_rfl) (by kernel_rfl) (by kernel_rfl) (by rfl) (fun v hv => by obtain ⟨s0, s1, s2⟩ := hv; go_simp; try with_reducible rfl) ?_
          try simp only [Act.put, List.setIfInBounds_toArray, List.set_cons_zero, List.set_cons_succ]
          refine restS_take (i := 13) S4.out rfl (by kernel_rfl) (by kernel_rfl) (by kernel_rfl) (by rfl) (fun v hv => by obtain ⟨s0, s1, s2⟩ := hv; go_simp; try with_reducible rfl) ?_
          try simp only [Act.put, List.setIfInBounds_toArray, List.set_cons_zero, List.set_cons_succ]
          refine restS_take (i := 15) S4.out rfl (by kernel_rfl) (by kernel_rfl) (by kernel_rfl) (by rfl) (fun v hv => by obtain ⟨s0, s1, s2⟩ := hv; go_simp; try with_reducible rfl) ?_
          try simp only [Act.put, List.setIfInBounds_toArray, List.set_cons_zero, List.set_cons_succ]
          refine restS_take (i := 16) S4.out rfl (by kernel_rfl) (by kernel_rfl) (by kernel_rfl) (by rfl) (fun v hv => by obtain ⟨s0, s1, s2⟩ := hv; go_simp; try with_reducible rfl) ?_
          try simp only [Act.put, List.setIfInBounds_toArray, List.set_cons_zero, List.set_cons_succ]
          refine restS_take (i := 17) S4.out rfl (by kernel_rfl) (by kernel_rfl) (by kernel_rfl) (by rfl) (fun v hv => by obtain ⟨s0, s1, s2⟩ := hv; go_simp; try with_reducible rfl) ?_
          try simp only [Act.put, List.setIfInBounds_toArray, List.set_cons_zero, List.set_cons_succ]
          refine restS_take (i := 18) S4.out rfl (by kernel_rfl) (by kernel_rfl) (by kernel_rfl) (by rfl) (fun v hv => by obtain ⟨s0, s1, s2⟩ := hv; go_simp; try with_reducible rfl) ?_
          try simp only [Act.put, List.setIfInBounds_toArray, List.set_cons_zero, List.set_cons_succ]
          refine restS_take (i := 19) S4.out rfl (by kernel_rfl) (by kernel_rfl) (by kernel_rfl) (by rfl) (fun v hv => by obtain ⟨s0, s1, s2⟩ := hv; go_simp; try with_reducible rfl) ?_
          try simp only [Act.put, List.setIfInBounds_toArray, List.set_cons_zero, List.set_cons_succ]
          refine restS_take (i := 20) S4.out rfl (by kernel_rfl) (by kernel_rfl) (by kernel_rfl) (by rfl) (fun v hv => by obtain ⟨s0, s1, s2⟩ := hv; go_simp; try with_reducible rfl) ?_
          try simp only [Act.put, List.setIfInBounds_toArray, List.set_cons_zero, List.set_cons_succ]
          refine restS_take (i := 21) S4.out rfl (by kernel_rfl) (by kernel_rfl) (by kernel_rfl) (by rfl) (fun v hv => by obtain ⟨s0, s1, s2⟩ := hv; go_simp; try with_reducible rfl) ?_
          try simp only [Act.put, List.setIfInBounds_toArray, List.set_cons_zero, List.set_cons_succ]
          refine restS_take (i := 22) S4.out rfl (by kernel_rfl) (by kernel_rfl) (by kernel_rfl) (by rfl) (fun v hv => by obtain ⟨s0, s1, s2⟩ := hv; go_simp; try with_reducible rfl) ?_
          try simp only [Act.put, List.setIfInBounds_toArray, List.set_cons_zero, List.set_cons_succ]
          refine restS_lone (i := 14) rfl (by kernel_rfl) (by rfl) (fun K hK => ?_)
          go_simp
          refine (HWt.out v4 G4.out).mono ?_
          rintro e v5 ⟨rfl, hg5⟩
          have G5 := Lib.hid (G4.out.trans hg5)
          have S5 := Lib.hid (SX.out v5 G5.out)
          have Z9 := Lib.hid (ZT.out.grow (pcKeeps KKC.out.kept (devKp KK.out) G H room l1 dv) (pcKeeps (rcKept w.heap.size) (rdKept w.heap.size) Q R room l1 dv) G5.out)
          clear hg5 G4 S4
          refine hK.out _ _ S5.out ?_
          clear hK K
          try simp only [Act.put, List.setIfInBounds_toArray, List.set_cons_zero, List.set_cons_succ]
          refine restS_take (i := 23) S5.out rfl (by kernel_rfl) (by kernel_rfl) (by kernel_rfl) (by rfl) (fun v hv => by obtain ⟨s0, s1, s2⟩ := hv; go_simp; try with_reducible rfl) ?_
          try simp only [Act.put, List.setIfInBounds_toArray, List.set_cons_zero, List.set_cons_succ]
          refine restS_take (i := 24) S5.out rfl (by kernel_rfl) (by kernel_rfl) (by kernel_rfl) (by rfl) (fun v hv => by obtain ⟨s0, s1, s2⟩ := hv; go_simp; try with_reducible rfl) ?_
          try simp only [Act.put, List.setIfInBounds_toArray, List.set_cons_zero, List.set_cons_succ]
          refine restS_take (i := 25) S5.out rfl (by kernel_rfl) (by kernel_rfl) (by kernel_rfl) (by rfl) (fun v hv => by obtain ⟨s0, s1, s2⟩ := hv; go_simp; try with_reducible rfl) ?_
          try simp only [Act.put, List.setIfInBounds_toArray, List.set_cons_zero, List.set_cons_succ]
          refine restS_take (i := 26) S5.out rfl (by kernel_rfl) (by kernel_rfl) (by kernel_rfl) (by rfl) (fun v hv => by obtain ⟨s0, s1, s2⟩ := hv; go_simp; try with_reducible rfl) ?_
          try simp only [Act.put, List.setIfInBounds_toArray, List.set_cons_zero, List.set_cons_succ]
          refine restS_take (i := 27) S5.out rfl (by kernel_rfl) (by kernel_rfl) (by kernel_rfl) (by rfl) (fun v hv => by obtain ⟨s0, s1, s2⟩ := hv; go_simp; try with_reducible rfl) ?_
          try simp only [Act.put, List.setIfInBounds_toArray, List.set_cons_zero, List.set_cons_succ]
          refine restS_take (i := 28) S5.out rfl (by kernel_rfl) (by kernel_rfl) (by kernel_rfl) (by rfl) (fun v hv => by obtain ⟨s0, s1, s2⟩ := hv; go_simp; try with_reducible rfl) ?_
          try simp only [Act.put, List.setIfInBounds_toArray, List.set_cons_zero, List.set_cons_succ]
          refine restS_take (i := 29) S5.out rfl (by kernel_rfl) (by kernel_rfl) (by kernel_rfl) (by rfl) (fun v hv => by obtain ⟨s0, s1, s2⟩ := hv; go_simp; try with_reducible rfl) ?_
          try simp only [Act.put, List.setIfInBounds_toArray, List.set_cons_zero, List.set_cons_succ]
          refine restS_take (i := 30) S5.out rfl (by kernel_rfl) (by kernel_rfl) (by kernel_rfl) (by rfl) (fun v hv => by obtain ⟨s0, s1, s2⟩ := hv; go_simp; try with_reducible rfl) ?_
          try simp only [Act.put, List.setIfInBounds_toArray, List.set_cons_zero, List.set_cons_succ]
          refine restS_take (i := 31) S5.out rfl (by kernel_rfl) (by kernel_rfl) (by kernel_rfl) (by rfl) (fun v hv => by obtain ⟨s0, s1, s2⟩ := hv; go_simp; try with_reducible rfl) ?_
          try simp only [Act.put, List.setIfInBounds_toArray, List.set_cons_zero, List.set_cons_succ]
          refine restS_take (i := 32) S5.out rfl (by kernel_rfl) (by kernel_rfl) (by kernel_rfl) (by rfl) (fun v hv => by obtain ⟨s0, s1, s2⟩ := hv; go_simp; try with_reducible rfl) ?_
          try simp only [Act.put, List.setIfInBounds_toArray, List.set_cons_zero, List.set_cons_succ]
          refine restS_take (i := 33) S5.out rfl (by kernel_rfl) (by kernel_rfl) (by kernel_rfl) (by rfl) (fun v hv => by obtain ⟨s0, s1, s2⟩ := hv; go_simp; try with_reducible rfl) ?_
          try simp only [Act.put, List.setIfInBounds_toArray, List.set_cons_zero, List.set_cons_succ]
          refine restS_done (by kernel_rfl) ?_
          clear S0 S5 SX HWt
          go_wp2
          exact ⟨⟨i + 1, FP, FR, l1, dv, by first | rfl | simp | go_num, by omega, HN1.out, Z9.out⟩, by simp [intOf]; omega⟩
      · as_aux_lemma =>
          have ZA := Lib.hid (HZ.out.grow (pcKeeps KKC.out.kept (devKp KK.out) G H room l dv) (pcKeeps (rcKept w.heap.size) (rdKept w.heap.size) Q R room l dv) (alloc_below wr (acO 3 at_ nn Ab nb cb Ak nk ck)))
          have BA := Lib.hid (show Bs (wr.alloc (acO 3 at_ nn Ab nb cb Ak nk ck)) F F2 wr.heap.size (acO 3 at_ nn Ab nb cb Ak nk ck) from bsNew HZ.out _)
          clear HZ
          obtain ⟨l1, hl1⟩ : ∃ l1 : Ka, l1 = [] := ⟨_, rfl⟩
          have HN1 := Lib.hid (show KNum 6 room l1 dv (i + 1) by rw [hl1]; exact HN.out.nil.up (by omega))
          go_wp2_with fail
          obtain ⟨a, ha⟩ : ∃ a, a = wr.heap.size := ⟨_, rfl⟩
          rw [← ha] at BA ⊢
          clear ha d0 d1 d2 d3 d4
          generalize wr.alloc _ = va at ZA BA ⊢
          refine (KKC.out.clear va G H F room l dv ZA.out.p (by rw [HN.out.len]; exact HN.out.ko) (by rw [HN.out.len]; omega)).mono ?_
          rintro e v1 ⟨rfl, FP, hcd, hb, hc⟩
          rw [← hl1] at hcd
          have hs1 := ZA.out.step (P' := Pc D C G H room l1 dv) (pcKeeps (rcKept w.heap.size) (rdKept w.heap.size) Q R room l dv) hcd (hcd.foot KKC.out.kept (devKp KK.out)) hb hc
          have Z1 := Lib.hid hs1.1
          have B1 := Lib.hid (hs1.2 _ _ BA.out)
          clear hcd hb hc hs1 ZA BA
          obtain ⟨_, _, _, _, _, q2, _, _, _, fz2, ⟨v3, q3⟩, _, _⟩ := qCells Z1.out.q
          obtain ⟨hqc, fz3⟩ := qClear Z1.out.q
          have HQC := Lib.hid hqc
          clear hqc B1
          go_wp2_with fail
          clear q2 q3 fz2 fz3
          obtain ⟨FR, hcd, hb, hc⟩ := HQC.out
          rw [← hl1] at hcd
          clear HQC hl1
          generalize (v1.setCell _ _).setCell _ _ = vz at hcd hb hc ⊢
          have hs1 := Z1.out.swap.step (P' := Pc (RD w.heap.size) (RC w.heap.size) Q R room l1 dv) (pcKeeps KKC.out.kept (devKp KK.out) G H room l1 dv) hcd (hcd.foot (rcKept w.heap.size) (rdKept w.heap.size)) hb hc
          have ZZ := Lib.hid hs1.1.swap
          clear hcd hb hc hs1 Z1
          generalize hvd : vz.drew = vd
          have ZT := Lib.hid (show Sd (Pc D C G H room l1 dv) (Pc (RD w.heap.size) (RC w.heap.size) Q R room l1 dv) w vd FP FR by rw [← hvd]; exact ZZ.out.grow (pcKeeps KKC.out.kept (devKp KK.out) G H room l1 dv) (pcKeeps (rcKept w.heap.size) (rdKept w.heap.size) Q R room l1 dv) ((Below.refl _ vz).drew))
          obtain ⟨Ax, cx, Ay, cy, q0, q2, qz, qc, q1, _, _, hQl, hRl⟩ := qCells ZT.out.q
          obtain ⟨lk, hlk⟩ : ∃ lk, lk = l1.length := ⟨_, rfl⟩
          obtain ⟨pc, hpc⟩ : ∃ pc, pc = dv.pend.length := ⟨_, rfl⟩
          have HKt := Lib.hid (KKC.out.keeps vd G H FP room l1 dv ZT.out.p (by rw [HN1.out.len]; exact HN1.out.ko) (by rw [HN1.out.len]; omega))
          have HWt := Lib.hid (fun (v : World) (hv : Grown vd v) => show Calls Try.prog 28 #[.pointer (some ⟨H, 0, none⟩)] v fun e w' => e = .returned (.int .i64 (dv.pend.length : Int)) ∧ Grown v w' by
            obtain ⟨Fc, Fd, hc, hd, ha, hF⟩ := (ZT.out.grow (pcKeeps KKC.out.kept (devKp KK.out) G H room l1 dv) (pcKeeps (rcKept w.heap.size) (rdKept w.heap.size) Q R room l1 dv) hv).p
            exact KK.out.waits v H Fd dv (i + 1) hd HN1.out.ok (by omega))
          have HKl := Lib.hid (show (keys l1).length = lk by rw [keys_len, hlk])
          have HK6 := Lib.hid (show lk ≤ 6 by rw [hlk]; exact HN1.out.ko.few)
          have hlr : ¬ (lk : Int) > (room : Int) := by have := HN1.out.ko.room; omega
          have QZ := Lib.hid qz
          rw [← hlk] at q2 HKt
          rw [← hpc] at q1 qc HWt
          have SX := Lib.hid (show ∀ v : World, Grown vd v → v.cell? ⟨Q, 0, none⟩ = some (.pointer (some ⟨R, 0, none⟩)) ∧ v.cell? ⟨Q, 2, none⟩ = some (.slice Ax lk cx) ∧ v.cell? ⟨R, 1, none⟩ = some (.slice Ay pc cy) from fun v hv => ⟨(hv.cell (p := ⟨Q, 0, none⟩) hQl).trans q0, (hv.cell (p := ⟨Q, 2, none⟩) hQl).trans q2, (hv.cell (p := ⟨R, 1, none⟩) hRl).trans q1⟩)
          have S0 := Lib.hid (SX.out vd (Grown.refl _))
          clear hlk hpc q0 q1 q2 qz hQl hRl ZZ
          refine restS_begin (fun v : World => v.cell? ⟨Q, 0, none⟩ = some (.pointer (some ⟨R, 0, none⟩)) ∧ v.cell? ⟨Q, 2, none⟩ = some (.slice Ax lk cx) ∧ v.cell? ⟨R, 1, none⟩ = some (.slice Ay pc cy)) (by kernel_rfl) ?_
          rw [hvd]
          clear hvd
          refine restS_take (i := 0) S0.out rfl (by kernel_rfl) (by kernel_rfl) (by kernel_rfl) (by rfl) (fun v hv => by obtain ⟨s0, s1, s2⟩ := hv; go_simp; try with_reducible rfl) ?_
          try simp only [Act.put, List.setIfInBounds_toArray, List.set_cons_zero, List.set_cons_succ]
          refine restS_take (i := 1) S0.out rfl (by kernel_rfl) (by kernel_rfl) (by kernel_rfl) (by rfl) (fun v hv => by obtain ⟨s0, s1, s2⟩ := hv; go_simp; try with_reducible rfl) ?_
          try simp only [Act.put, List.setIfInBounds_toArray, List.set_cons_zero, List.set_cons_succ]
          refine restS_take (i := 2) S0.out rfl (by kernel_rfl) (by kernel_rfl) (by kernel_rfl) (by rfl) (fun v hv => by obtain ⟨s0, s1, s2⟩ := hv; go_simp; try with_reducible rfl) ?_
          try simp only [Act.put, List.setIfInBounds_toArray, List.set_cons_zero, List.set_cons_succ]
          refine restS_take (i := 3) S0.out rfl (by kernel_rfl) (by kernel_rfl) (by kernel_rfl) (by rfl) (fun v hv => by obtain ⟨s0, s1, s2⟩ := hv; go_simp; try with_reducible rfl) ?_
          try simp only [Act.put, List.setIfInBounds_toArray, List.set_cons_zero, List.set_cons_succ]
          refine restS_take (i := 5) S0.out rfl (by kernel_rfl) (by kernel_rfl) (by kernel_rfl) (by rfl) (fun v hv => by obtain ⟨s0, s1, s2⟩ := hv; go_simp; try with_reducible rfl) ?_
          try simp only [Act.put, List.setIfInBounds_toArray, List.set_cons_zero, List.set_cons_succ]
          refine restS_take (i := 6) S0.out rfl (by kernel_rfl) (by kernel_rfl) (by kernel_rfl) (by rfl) (fun v hv => by obtain ⟨s0, s1, s2⟩ := hv; go_simp; try with_reducible rfl) ?_
          try simp only [Act.put, List.setIfInBounds_toArray, List.set_cons_zero, List.set_cons_succ]
          refine restS_take (i := 7) S0.out rfl (by kernel_rfl) (by kernel_rfl) (by kernel_rfl) (by rfl) (fun v hv => by obtain ⟨s0, s1, s2⟩ := hv; go_simp; try with_reducible rfl) ?_
          try simp only [Act.put, List.setIfInBounds_toArray, List.set_cons_zero, List.set_cons_succ]
          refine restS_take (i := 8) S0.out rfl (by kernel_rfl) (by kernel_rfl) (by kernel_rfl) (by rfl) (fun v hv => by obtain ⟨s0, s1, s2⟩ := hv; go_simp; try with_reducible rfl) ?_
          try simp only [Act.put, List.setIfInBounds_toArray, List.set_cons_zero, List.set_cons_succ]
          refine restS_lone (i := 4) rfl (by kernel_rfl) (by rfl) (fun K hK => ?_)
          go_simp
          refine (HKt.out).mono ?_
          rintro e v3 ⟨A5, m5, c5, rfl, hm5, hc5, hr5, hg5⟩
          obtain rfl := hm5
          have G3 := Lib.hid hg5
          have S3 := Lib.hid (SX.out v3 hg5)
          have R5 := Lib.hid hr5
          have Q5 := Lib.hid (QZ.out.grow hg5)
          clear hg5 hr5 HKt QZ
          refine hK.out _ _ S3.out ?_
          clear hK K
          try simp only [Act.put, List.setIfInBounds_toArray, List.set_cons_zero, List.set_cons_succ]
          refine restS_lone (i := 9) rfl (by kernel_rfl) (by rfl) (fun K hK => ?_)
          go_simp
          refine (S15.refInts_any (l := keys l1) (l2 := keys l1) (c := c5) (c2 := cx) (n := lk) (n2 := lk) (show S15.RdZ _ _ A5 (keys l1) from R5.out) HKl.out (by have := HK6.out; omega) Q5.out HKl.out (by have := HK6.out; omega)).mono ?_
          rintro e v4 ⟨rfl, hg4⟩
          rw [show decide (keys l1 = keys l1) = true from decide_eq_true rfl]
          have G4 := Lib.hid (G3.out.trans hg4)
          have S4 := Lib.hid (SX.out v4 G4.out)
          clear hg4 R5 Q5 G3 S3
          refine hK.out _ _ S4.out ?_
          clear hK K
          try simp only [Act.put, List.setIfInBounds_toArray, List.set_cons_zero, List.set_cons_succ]
          refine restS_take (i := 10) S4.out rfl (by kernel_rfl) (by kernel_rfl) (by kernel_rfl) (by rfl) (fun v hv => by obtain ⟨s0, s1, s2⟩ := hv; go_simp; try with_reducible rfl) ?_
          try simp only [Act.put, List.setIfInBounds_toArray, List.set_cons_zero, List.set_cons_succ]
          refine restS_take (i := 11) S4.out rfl (by kernel_rfl) (by kernel_rfl) (by kernel_rfl) (by rfl) (fun v hv => by obtain ⟨s0, s1, s2⟩ := hv; go_simp; try with_reducible rfl) ?_
          try simp only [Act.put, List.setIfInBounds_toArray, List.set_cons_zero, List.set_cons_succ]
          refine restS_take (i := 12) S4.out rfl (by kernel_rfl) (by kernel_rfl) (by kernel_rfl) (by rfl) (fun v hv => by obtain ⟨s0, s1, s2⟩ := hv; go_simp; try with_reducible rfl) ?_
          try simp only [Act.put, List.setIfInBounds_toArray, List.set_cons_zero, List.set_cons_succ]
          refine restS_take (i := 13) S4.out rfl (by kernel_rfl) (by kernel_rfl) (by kernel_rfl) (by rfl) (fun v hv => by obtain ⟨s0, s1, s2⟩ := hv; go_simp; try with_reducible rfl) ?_
          try simp only [Act.put, List.setIfInBounds_toArray, List.set_cons_zero, List.set_cons_succ]
          refine restS_take (i := 15) S4.out rfl (by kernel_rfl) (by kernel_rfl) (by kernel_rfl) (by rfl) (fun v hv => by obtain ⟨s0, s1, s2⟩ := hv; go_simp; try with_reducible rfl) ?_
          try simp only [Act.put, List.setIfInBounds_toArray, List.set_cons_zero, List.set_cons_succ]
          refine restS_take (i := 16) S4.out rfl (by kernel_rfl) (by kernel_rfl) (by kernel_rfl) (by rfl) (fun v hv => by obtain ⟨s0, s1, s2⟩ := hv; go_simp; try with_reducible rfl) ?_
          try simp only [Act.put, List.setIfInBounds_toArray, List.set_cons_zero, List.set_cons_succ]
          refine restS_take (i := 17) S4.out rfl (by kernel_rfl) (by kernel_rfl) (by kernel_rfl) (by rfl) (fun v hv => by obtain ⟨s0, s1, s2⟩ := hv; go_simp; try with_reducible rfl) ?_
          try simp only [Act.put, List.setIfInBounds_toArray, List.set_cons_zero, List.set_cons_succ]
          refine restS_take (i := 18) S4.out rfl (by kernel_rfl) (by kernel_rfl) (by kernel_rfl) (by rfl) (fun v hv => by obtain ⟨s0, s1, s2⟩ := hv; go_simp; try with_reducible rfl) ?_
          try simp only [Act.put, List.setIfInBounds_toArray, List.set_cons_zero, List.set_cons_succ]
          refine restS_take (i := 19) S4.out rfl (by kernel_rfl) (by kernel_rfl) (by kernel_rfl) (by rfl) (fun v hv => by obtain ⟨s0, s1, s2⟩ := hv; go_simp; try with_reducible rfl) ?_
          try simp only [Act.put, List.setIfInBounds_toArray, List.set_cons_zero, List.set_cons_succ]
          refine restS_take (i := 20) S4.out rfl (by kernel_rfl) (by kernel_rfl) (by kernel_rfl) (by rfl) (fun v hv => by obtain ⟨s0, s1, s2⟩ := hv; go_simp; try with_reducible rfl) ?_
          try simp only [Act.put, List.setIfInBounds_toArray, List.set_cons_zero, List.set_cons_succ]
          refine restS_take (i := 21) S4.out rfl (by kernel_rfl) (by kernel_rfl) (by kernel_rfl) (by rfl) (fun v hv => by obtain ⟨s0, s1, s2⟩ := hv; go_simp; try with_reducible rfl) ?_
          try simp only [Act.put, List.setIfInBounds_toArray, List.set_cons_zero, List.set_cons_succ]
          refine restS_take (i := 22) S4.out rfl (by kernel_rfl) (by kernel_rfl) (by kernel_rfl) (by rfl) (fun v hv => by obtain ⟨s0, s1, s2⟩ := hv; go_simp; try with_reducible rfl) ?_
          try simp only [Act.put, List.setIfInBounds_toArray, List.set_cons_zero, List.set_cons_succ]
          refine restS_lone (i := 14) rfl (by kernel_rfl) (by rfl) (fun K hK => ?_)
          go_simp
          refine (HWt.out v4 G4.out).mono ?_
          rintro e v5 ⟨rfl, hg5⟩
          have G5 := Lib.hid (G4.out.trans hg5)
          have S5 := Lib.hid (SX.out v5 G5.out)
          have Z9 := Lib.hid (ZT.out.grow (pcKeeps KKC.out.kept (devKp KK.out) G H room l1 dv) (pcKeeps (rcKept w.heap.size) (rdKept w.heap.size) Q R room l1 dv) G5.out)
          clear hg5 G4 S4
          refine hK.out _ _ S5.out ?_
          clear hK K
          try simp only [Act.put, List.setIfInBounds_toArray, List.set_cons_zero, List.set_cons_succ]
          refine restS_take (i := 23) S5.out rfl (by kernel_rfl) (by kernel_rfl) (by kernel_rfl) (by rfl) (fun v hv => by obtain ⟨s0, s1, s2⟩ := hv; go_simp; try with_reducible rfl) ?_
          try simp only [Act.put, List.setIfInBounds_toArray, List.set_cons_zero, List.set_cons_succ]
          refine restS_take (i := 24) S5.out rfl (by kernel_rfl) (by kernel_rfl) (by kernel_rfl) (by rfl) (fun v hv => by obtain ⟨s0, s1, s2⟩ := hv; go_simp; try with_reducible rfl) ?_
          try simp only [Act.put, List.setIfInBounds_toArray, List.set_cons_zero, List.set_cons_succ]
          refine restS_take (i := 25) S5.out rfl (by kernel_rfl) (by kernel_rfl) (by kernel_rfl) (by rfl) (fun v hv => by obtain ⟨s0, s1, s2⟩ := hv; go_simp; try with_reducible rfl) ?_
          try simp only [Act.put, List.setIfInBounds_toArray, List.set_cons_zero, List.set_cons_succ]
          refine restS_take (i := 26) S5.out rfl (by kernel_rfl) (by kernel_rfl) (by kernel_rfl) (by rfl) (fun v hv => by obtain ⟨s0, s1, s2⟩ := hv; go_simp; try with_reducible rfl) ?_
          try simp only [Act.put, List.setIfInBounds_toArray, List.set_cons_zero, List.set_cons_succ]
          refine restS_take (i := 27) S5.out rfl (by kernel_rfl) (by kernel_rfl) (by kernel_rfl) (by rfl) (fun v hv => by obtain ⟨s0, s1, s2⟩ := hv; go_simp; try with_reducible rfl) ?_
          try simp only [Act.put, List.setIfInBounds_toArray, List.set_cons_zero, List.set_cons_succ]
          refine restS_take (i := 28) S5.out rfl (by kernel_rfl) (by kernel_rfl) (by kernel_rfl) (by rfl) (fun v hv => by obtain ⟨s0, s1, s2⟩ := hv; go_simp; try with_reducible rfl) ?_
          try simp only [Act.put, List.setIfInBounds_toArray, List.set_cons_zero, List.set_cons_succ]
          refine restS_take (i := 29) S5.out rfl (by kernel_rfl) (by kernel_rfl) (by kernel_rfl) (by rfl) (fun v hv => by obtain ⟨s0, s1, s2⟩ := hv; go_simp; try with_reducible rfl) ?_
          try simp only [Act.put, List.setIfInBounds_toArray, List.set_cons_zero, List.set_cons_succ]
          refine restS_take (i := 30) S5.out rfl (by kernel_rfl) (by kernel_rfl) (by kernel_rfl) (by rfl) (fun v hv => by obtain ⟨s0, s1, s2⟩ := hv; go_simp; try with_reducible rfl) ?_
          try simp only [Act.put, List.setIfInBounds_toArray, List.set_cons_zero, List.set_cons_succ]
          refine restS_take (i := 31) S5.out rfl (by kernel_rfl) (by kernel_rfl) (by kernel_rfl) (by rfl) (fun v hv => by obtain ⟨s0, s1, s2⟩ := hv; go_simp; try with_reducible rfl) ?_
          try simp only [Act.put, List.setIfInBounds_toArray, List.set_cons_zero, List.set_cons_succ]
          refine restS_take (i := 32) S5.out rfl (by kernel_rfl) (by kernel_rfl) (by kernel_rfl) (by rfl) (fun v hv => by obtain ⟨s0, s1, s2⟩ := hv; go_simp; try with_reducible rfl) ?_
          try simp only [Act.put, List.setIfInBounds_toArray, List.set_cons_zero, List.set_cons_succ]
          refine restS_take (i := 33) S5.out rfl (by kernel_rfl) (by kernel_rfl) (by kernel_rfl) (by rfl) (fun v hv => by obtain ⟨s0, s1, s2⟩ := hv; go_simp; try with_reducible rfl) ?_
          try simp only [Act.put, List.setIfInBounds_toArray, List.set_cons_zero, List.set_cons_succ]
          refine restS_done (by kernel_rfl) ?_
          clear S0 S5 SX HWt
          go_wp2
          exact ⟨⟨i + 1, FP, FR, l1, dv, by first | rfl | simp | go_num, by omega, HN1.out, Z9.out⟩, by simp [intOf]; omega⟩
      · as_aux_lemma =>
          have ZA := Lib.hid (HZ.out.grow (pcKeeps KKC.out.kept (devKp KK.out) G H room l dv) (pcKeeps (rcKept w.heap.size) (rdKept w.heap.size) Q R room l dv) (alloc_below wr (acO 4 at_ nn Ab nb cb Ak nk ck)))
          have BA := Lib.hid (show Bs (wr.alloc (acO 4 at_ nn Ab nb cb Ak nk ck)) F F2 wr.heap.size (acO 4 at_ nn Ab nb cb Ak nk ck) from bsNew HZ.out _)
          clear HZ
          obtain ⟨er, her⟩ : ∃ er, er = (dvFlush dv).1 := ⟨_, rfl⟩
          obtain ⟨st1, hst1⟩ : ∃ st1, st1 = (dvFlush dv).2 := ⟨_, rfl⟩
          have HN1 := Lib.hid (show KNum 6 room l st1 (i + 1) by rw [hst1]; exact HN.out.flush.up (by omega))
          have HP := Lib.hid (fun (v : World) (hv : Sd (Pc D C G H room l dv) (Pc (RD w.heap.size) (RC w.heap.size) Q R room l dv) w v F F2) => cdFlush KK.out KKC.out.kept hv.p HN.out.ok (by omega) (by rw [HN.out.len]; omega))
          have HR := Lib.hid (fun (v : World) (FP : Nat → Prop) (hv : Sd (Pc D C G H room l st1) (Pc (RD w.heap.size) (RC w.heap.size) Q R room l dv) w v FP F2) => qFlush hv.q HN.out.ok (by omega) (by rw [HN.out.len]; omega))
          rw [← her, ← hst1] at HP HR
          have hbe : (er == er) = true := by simp
          clear her hst1
          go_wp2_with fail
          obtain ⟨a, ha⟩ : ∃ a, a = wr.heap.size := ⟨_, rfl⟩
          rw [← ha] at BA ⊢
          clear ha d0 d1 d2 d3 d4
          generalize wr.alloc _ = va at ZA BA ⊢
          generalize hvd : va.drew = vd
          have ZD := Lib.hid (show Sd (Pc D C G H room l dv) (Pc (RD w.heap.size) (RC w.heap.size) Q R room l dv) w vd F F2 by rw [← hvd]; exact ZA.out.grow (pcKeeps KKC.out.kept (devKp KK.out) G H room l dv) (pcKeeps (rcKept w.heap.size) (rdKept w.heap.size) Q R room l dv) ((Below.refl _ va).drew))
          have BD := Lib.hid (show Bs vd F F2 a (acO 4 at_ nn Ab nb cb Ak nk ck) by rw [← hvd]; exact BA.out.grow ((Below.refl _ va).drew))
          clear ZA BA
          refine restS_begin (fun v => SA a 4 at_ nn Ab nb cb Ak nk ck v ∧ v.cell? ⟨Q, 0, none⟩ = some (.pointer (some ⟨R, 0, none⟩))) (by kernel_rfl) ?_
          rw [hvd]
          clear hvd
          refine restS_take (i := 0) (And.intro (sa_of BD.out) (q0_of ZD.out.q)) rfl (by kernel_rfl) (by kernel_rfl) (by kernel_rfl) (by rfl) (fun v hv => by obtain ⟨⟨s0, s1, s2, s3, s4⟩, s5⟩ := hv; go_simp; try with_reducible rfl) ?_
          try simp only [Act.put, List.setIfInBounds_toArray, List.set_cons_zero, List.set_cons_succ]
          refine restS_take (i := 2) (And.intro (sa_of BD.out) (q0_of ZD.out.q)) rfl (by kernel_rfl) (by kernel_rfl) (by kernel_rfl) (by rfl) (fun v hv => by obtain ⟨⟨s0, s1, s2, s3, s4⟩, s5⟩ := hv; go_simp; try with_reducible rfl) ?_
          try simp only [Act.put, List.setIfInBounds_toArray, List.set_cons_zero, List.set_cons_succ]
          refine restS_take (i := 3) (And.intro (sa_of BD.out) (q0_of ZD.out.q)) rfl (by kernel_rfl) (by kernel_rfl) (by kernel_rfl) (by rfl) (fun v hv => by obtain ⟨⟨s0, s1, s2, s3, s4⟩, s5⟩ := hv; go_simp; try with_reducible rfl) ?_
          try simp only [Act.put, List.setIfInBounds_toArray, List.set_cons_zero, List.set_cons_succ]
          refine restS_take (i := 4) (And.intro (sa_of BD.out) (q0_of ZD.out.q)) rfl (by kernel_rfl) (by kernel_rfl) (by kernel_rfl) (by rfl) (fun v hv => by obtain ⟨⟨s0, s1, s2, s3, s4⟩, s5⟩ := hv; go_simp; try with_reducible rfl) ?_
          try simp only [Act.put, List.setIfInBounds_toArray, List.set_cons_zero, List.set_cons_succ]
          refine restS_take (i := 5) (And.intro (sa_of BD.out) (q0_of ZD.out.q)) rfl (by kernel_rfl) (by kernel_rfl) (by kernel_rfl) (by rfl) (fun v hv => by obtain ⟨⟨s0, s1, s2, s3, s4⟩, s5⟩ := hv; go_simp; try with_reducible rfl) ?_
          try simp only [Act.put, List.setIfInBounds_toArray, List.set_cons_zero, List.set_cons_succ]
          refine restS_lone (i := 1) rfl (by kernel_rfl) (by rfl) (fun K hK => ?_)
          go_simp
          refine (HP.out vd ZD.out).mono ?_
          rintro e v1 ⟨rfl, FP, hcd, hb, hc⟩
          have hs1 := ZD.out.step (P' := Pc D C G H room l st1) (pcKeeps (rcKept w.heap.size) (rdKept w.heap.size) Q R room l dv) hcd (hcd.foot KKC.out.kept (devKp KK.out)) hb hc
          have Z1 := Lib.hid hs1.1
          have B1 := Lib.hid (hs1.2 _ _ BD.out)
          clear hcd hb hc hs1 ZD BD
          refine hK.out _ _ (And.intro (sa_of B1.out) (q0_of Z1.out.q)) ?_
          clear hK K
          try simp only [Act.put, List.setIfInBounds_toArray, List.set_cons_zero, List.set_cons_succ]
          refine restS_lone (i := 6) rfl (by kernel_rfl) (by rfl) (fun K hK => ?_)
          go_simp
          refine (HR.out v1 FP Z1.out).mono ?_
          rintro e vz ⟨rfl, FR, hcd, hb, hc⟩
          have hs1 := Z1.out.swap.step (P' := Pc (RD w.heap.size) (RC w.heap.size) Q R room l st1) (pcKeeps KKC.out.kept (devKp KK.out) G H room l st1) hcd (hcd.foot (rcKept w.heap.size) (rdKept w.heap.size)) hb hc
          have ZZ := Lib.hid hs1.1.swap
          have BZ := Lib.hid (S14.Bs.swap (hs1.2 _ _ (S14.Bs.swap B1.out)))
          clear hcd hb hc hs1 Z1 B1 HP HR
          refine hK.out _ _ (And.intro (sa_of BZ.out) (q0_of ZZ.out.q)) ?_
          clear hK K
          try simp only [Act.put, List.setIfInBounds_toArray, List.set_cons_zero, List.set_cons_succ]
          refine restS_take (i := 7) (And.intro (sa_of BZ.out) (q0_of ZZ.out.q)) rfl (by kernel_rfl) (by kernel_rfl) (by kernel_rfl) (by rfl) (fun v hv => by obtain ⟨⟨s0, s1, s2, s3, s4⟩, s5⟩ := hv; go_simp; try with_reducible rfl) ?_
          try simp only [Act.put, List.setIfInBounds_toArray, List.set_cons_zero, List.set_cons_succ]
          refine restS_take (i := 8) (And.intro (sa_of BZ.out) (q0_of ZZ.out.q)) rfl (by kernel_rfl) (by kernel_rfl) (by kernel_rfl) (by rfl) (fun v hv => by obtain ⟨⟨s0, s1, s2, s3, s4⟩, s5⟩ := hv; go_simp; try with_reducible rfl) ?_
          try simp only [Act.put, List.setIfInBounds_toArray, List.set_cons_zero, List.set_cons_succ]
          refine restS_done (by kernel_rfl) ?_
          clear BZ
          go_wp2_with fail
          generalize hvd : vz.drew = vd
          have ZT := Lib.hid (show Sd (Pc D C G H room l st1) (Pc (RD w.heap.size) (RC w.heap.size) Q R room l st1) w vd FP FR by rw [← hvd]; exact ZZ.out.grow (pcKeeps KKC.out.kept (devKp KK.out) G H room l st1) (pcKeeps (rcKept w.heap.size) (rdKept w.heap.size) Q R room l st1) ((Below.refl _ vz).drew))
          obtain ⟨Ax, cx, Ay, cy, q0, q2, qz, qc, q1, _, _, hQl, hRl⟩ := qCells ZT.out.q
          obtain ⟨lk, hlk⟩ : ∃ lk, lk = l.length := ⟨_, rfl⟩
          obtain ⟨pc, hpc⟩ : ∃ pc, pc = st1.pend.length := ⟨_, rfl⟩
          have HKt := Lib.hid (KKC.out.keeps vd G H FP room l st1 ZT.out.p (by rw [HN1.out.len]; exact HN1.out.ko) (by rw [HN1.out.len]; omega))
          have HWt := Lib.hid (fun (v : World) (hv : Grown vd v) => show Calls Try.prog 28 #[.pointer (some ⟨H, 0, none⟩)] v fun e w' => e = .returned (.int .i64 (st1.pend.length : Int)) ∧ Grown v w' by
            obtain ⟨Fc, Fd, hc, hd, ha, hF⟩ := (ZT.out.grow (pcKeeps KKC.out.kept (devKp KK.out) G H room l st1) (pcKeeps (rcKept w.heap.size) (rdKept w.heap.size) Q R room l st1) hv).p
            exact KK.out.waits v H Fd st1 (i + 1) hd HN1.out.ok (by omega))
          have HKl := Lib.hid (show (keys l).length = lk by rw [keys_len, hlk])
          have HK6 := Lib.hid (show lk ≤ 6 by rw [hlk]; exact HN1.out.ko.few)
          have hlr : ¬ (lk : Int) > (room : Int) := by have := HN1.out.ko.room; omega
          have QZ := Lib.hid qz
          rw [← hlk] at q2 HKt
          rw [← hpc] at q1 qc HWt
          have SX := Lib.hid (show ∀ v : World, Grown vd v → v.cell? ⟨Q, 0, none⟩ = some (.pointer (some ⟨R, 0, none⟩)) ∧ v.cell? ⟨Q, 2, none⟩ = some (.slice Ax lk cx) ∧ v.cell? ⟨R, 1, none⟩ = some (.slice Ay pc cy) from fun v hv => ⟨(hv.cell (p := ⟨Q, 0, none⟩) hQl).trans q0, (hv.cell (p := ⟨Q, 2, none⟩) hQl).trans q2, (hv.cell (p := ⟨R, 1, none⟩) hRl).trans q1⟩)
          have S0 := Lib.hid (SX.out vd (Grown.refl _))
          clear hlk hpc q0 q1 q2 qz hQl hRl ZZ
          refine restS_begin (fun v : World => v.cell? ⟨Q, 0, none⟩ = some (.pointer (some ⟨R, 0, none⟩)) ∧ v.cell? ⟨Q, 2, none⟩ = some (.slice Ax lk cx) ∧ v.cell? ⟨R, 1, none⟩ = some (.slice Ay pc cy)) (by kernel_rfl) ?_
          rw [hvd]
          clear hvd
          refine restS_take (i := 0) S0.out rfl (by kernel_rfl) (by kernel_rfl) (by kernel_rfl) (by rfl) (fun v hv => by obtain ⟨s0, s1, s2⟩ := hv; go_simp; try with_reducible rfl) ?_
          try simp only [Act.put, List.setIfInBounds_toArray, List.set_cons_zero, List.set_cons_succ]
          refine restS_take (i := 1) S0.out rfl (by kernel_rfl) (by kernel_rfl) (by kernel_rfl) (by rfl) (fun v hv => by obtain ⟨s0, s1, s2⟩ := hv; go_simp; try with_reducible rfl) ?_
          try simp only [Act.put, List.setIfInBounds_toArray, List.set_cons_zero, List.set_cons_succ]
          refine restS_take (i := 2) S0.out rfl (by kernel_rfl) (by kernel_rfl) (by kernel_rfl) (by rfl) (fun v hv => by obtain ⟨s0, s1, s2⟩ := hv; go_simp; try with_reducible rfl) ?_
          try simp only [Act.put, List.setIfInBounds_toArray, List.set_cons_zero, List.set_cons_succ]
          refine restS_take (i := 3) S0.out rfl (by kernel_rfl) (by kernel_rfl) (by kernel_rfl) (by rfl) (fun v hv => by obtain ⟨s0, s1, s2⟩ := hv; go_simp; try with_reducible rfl) ?_
          try simp only [Act.put, List.setIfInBounds_toArray, List.set_cons_zero, List.set_cons_succ]
          refine restS_take (i := 5) S0.out rfl (by kernel_rfl) (by kernel_rfl) (by kernel_rfl) (by rfl) (fun v hv => by obtain ⟨s0, s1, s2⟩ := hv; go_simp; try with_reducible rfl) ?_
          try simp only [Act.put, List.setIfInBounds_toArray, List.set_cons_zero, List.set_cons_succ]
          refine restS_take (i := 6) S0.out rfl (by kernel_rfl) (by kernel_rfl) (by kernel_rfl) (by rfl) (fun v hv => by obtain ⟨s0, s1, s2⟩ := hv; go_simp; try with_reducible rfl) ?_
          try simp only [Act.put, List.setIfInBounds_toArray, List.set_cons_zero, List.set_cons_succ]
          refine restS_take (i := 7) S0.out rfl (by kernel_rfl) (by kernel_rfl) (by kernel_rfl) (by rfl) (fun v hv => by obtain ⟨s0, s1, s2⟩ := hv; go_simp; try with_reducible rfl) ?_
          try simp only [Act.put, List.setIfInBounds_toArray, List.set_cons_zero, List.set_cons_succ]
          refine restS_take (i := 8) S0.out rfl (by kernel_rfl) (by kernel_rfl) (by kernel_rfl) (by rfl) (fun v hv => by obtain ⟨s0, s1, s2⟩ := hv; go_simp; try with_reducible rfl) ?_
          try simp only [Act.put, List.setIfInBounds_toArray, List.set_cons_zero, List.set_cons_succ]
          refine restS_lone (i := 4) rfl (by kernel_rfl) (by rfl) (fun K hK => ?_)
          go_simp
          refine (HKt.out).mono ?_
          rintro e v3 ⟨A5, m5, c5, rfl, hm5, hc5, hr5, hg5⟩
          obtain rfl := hm5
          have G3 := Lib.hid hg5
          have S3 := Lib.hid (SX.out v3 hg5)
          have R5 := Lib.hid hr5
          have Q5 := Lib.hid (QZ.out.grow hg5)
          clear hg5 hr5 HKt QZ
          refine hK.out _ _ S3.out ?_
          clear hK K
          try simp only [Act.put, List.setIfInBounds_toArray, List.set_cons_zero, List.set_cons_succ]
          refine restS_lone (i := 9) rfl (by kernel_rfl) (by rfl) (fun K hK => ?_)
          go_simp
          refine (S15.refInts_any (l := keys l) (l2 := keys l) (c := c5) (c2 := cx) (n := lk) (n2 := lk) (show S15.RdZ _ _ A5 (keys l) from R5.out) HKl.out (by have := HK6.out; omega) Q5.out HKl.out (by have := HK6.out; omega)).mono ?_
          rintro e v4 ⟨rfl, hg4⟩
          rw [show decide (keys l = keys l) = true from decide_eq_true rfl]
          have G4 := Lib.hid (G3.out.trans hg4)
          have S4 := Lib.hid (SX.out v4 G4.out)
          clear hg4 R5 Q5 G3 S3
          refine hK.out _ _ S4.out ?_
          clear hK K
          try simp only [Act.put, List.setIfInBounds_toArray, List.set_cons_zero, List.set_cons_succ]
          refine restS_take (i := 10) S4.out rfl (by kernel_rfl) (by kernel_rfl) (by kernel_rfl) (by rfl) (fun v hv => by obtain ⟨s0, s1, s2⟩ := hv; go_simp; try with_reducible rfl) ?_
          try simp only [Act.put, List.setIfInBounds_toArray, List.set_cons_zero, List.set_cons_succ]
          refine restS_take (i := 11) S4.out rfl (by kernel_rfl) (by kernel_rfl) (by kernel_rfl) (by rfl) (fun v hv => by obtain ⟨s0, s1, s2⟩ := hv; go_simp; try with_reducible rfl) ?_
          try simp only [Act.put, List.setIfInBounds_toArray, List.set_cons_zero, List.set_cons_succ]
          refine restS_take (i := 12) S4.out rfl (by kernel_rfl) (by kernel_rfl) (by kernel_rfl) (by rfl) (fun v hv => by obtain ⟨s0, s1, s2⟩ := hv; go_simp; try with_reducible rfl) ?_
          try simp only [Act.put, List.setIfInBounds_toArray, List.set_cons_zero, List.set_cons_succ]
          refine restS_take (i := 13) S4.out rfl (by kernel_rfl) (by kernel_rfl) (by kernel_rfl) (by rfl) (fun v hv => by obtain ⟨s0, s1, s2⟩ := hv; go_simp; try with_reducible rfl) ?_
          try simp only [Act.put, List.setIfInBounds_toArray, List.set_cons_zero, List.set_cons_succ]
          refine restS_take (i := 15) S4.out rfl (by kernel_rfl) (by kernel_rfl) (by kernel_rfl) (by rfl) (fun v hv => by obtain ⟨s0, s1, s2⟩ := hv; go_simp; try with_reducible rfl) ?_
          try simp only [Act.put, List.setIfInBounds_toArray, List.set_cons_zero, List.set_cons_succ]
          refine restS_take (i := 16) S4.out rfl (by kernel_rfl) (by kernel_rfl) (by kernel_rfl) (by rfl) (fun v hv => by obtain ⟨s0, s1, s2⟩ := hv; go_simp; try with_reducible rfl) ?_
          try simp only [Act.put, List.setIfInBounds_toArray, List.set_cons_zero, List.set_cons_succ]
          refine restS_take (i := 17) S4.out rfl (by kernel_rfl) (by kernel_rfl) (by kernel_rfl) (by rfl) (fun v hv => by obtain ⟨s0, s1, s2⟩ := hv; go_simp; try with_reducible rfl) ?_
          try simp only [Act.put, List.setIfInBounds_toArray, List.set_cons_zero, List.set_cons_succ]
          refine restS_take (i := 18) S4.out rfl (by kernel_rfl) (by kernel_rfl) (by kernel_rfl) (by rfl) (fun v hv => by obtain ⟨s0, s1, s2⟩ := hv; go_simp; try with_reducible rfl) ?_
          try simp only [Act.put, List.setIfInBounds_toArray, List.set_cons_zero, List.set_cons_succ]
          refine restS_take (i := 19) S4.out rfl (by kernel_rfl) (by kernel_rfl) (by kernel_rfl) (by rfl) (fun v hv => by obtain ⟨s0, s1, s2⟩ := hv; go_simp; try with_reducible rfl) ?_
          try simp only [Act.put, List.setIfInBounds_toArray, List.set_cons_zero, List.set_cons_succ]
          refine restS_take (i := 20) S4.out rfl (by kernel_rfl) (by kernel_rfl) (by kernel_rfl) (by rfl) (fun v hv => by obtain ⟨s0, s1, s2⟩ := hv; go_simp; try with_reducible rfl) ?_
          try simp only [Act.put, List.setIfInBounds_toArray, List.set_cons_zero, List.set_cons_succ]
          refine restS_take (i := 21) S4.out rfl (by kernel_rfl) (by kernel_rfl) (by kernel_rfl) (by rfl) (fun v hv => by obtain ⟨s0, s1, s2⟩ := hv; go_simp; try with_reducible rfl) ?_
          try simp only [Act.put, List.setIfInBounds_toArray, List.set_cons_zero, List.set_cons_succ]
          refine restS_take (i := 22) S4.out rfl (by kernel_rfl) (by kernel_rfl) (by kernel_rfl) (by rfl) (fun v hv => by obtain ⟨s0, s1, s2⟩ := hv; go_simp; try with_reducible rfl) ?_
          try simp only [Act.put, List.setIfInBounds_toArray, List.set_cons_zero, List.set_cons_succ]
          refine restS_lone (i := 14) rfl (by kernel_rfl) (by rfl) (fun K hK => ?_)
          go_simp
          refine (HWt.out v4 G4.out).mono ?_
          rintro e v5 ⟨rfl, hg5⟩
          have G5 := Lib.hid (G4.out.trans hg5)
          have S5 := Lib.hid (SX.out v5 G5.out)
          have Z9 := Lib.hid (ZT.out.grow (pcKeeps KKC.out.kept (devKp KK.out) G H room l st1) (pcKeeps (rcKept w.heap.size) (rdKept w.heap.size) Q R room l st1) G5.out)
          clear hg5 G4 S4
          refine hK.out _ _ S5.out ?_
          clear hK K
          try simp only [Act.put, List.setIfInBounds_toArray, List.set_cons_zero, List.set_cons_succ]
          refine restS_take (i := 23) S5.out rfl (by kernel_rfl) (by kernel_rfl) (by kernel_rfl) (by rfl) (fun v hv => by obtain ⟨s0, s1, s2⟩ := hv; go_simp; try with_reducible rfl) ?_
          try simp only [Act.put, List.setIfInBounds_toArray, List.set_cons_zero, List.set_cons_succ]
          refine restS_take (i := 24) S5.out rfl (by kernel_rfl) (by kernel_rfl) (by kernel_rfl) (by rfl) (fun v hv => by obtain ⟨s0, s1, s2⟩ := hv; go_simp; try with_reducible rfl) ?_
          try simp only [Act.put, List.setIfInBounds_toArray, List.set_cons_zero, List.set_cons_succ]
          refine restS_take (i := 25) S5.out rfl (by kernel_rfl) (by kernel_rfl) (by kernel_rfl) (by rfl) (fun v hv => by obtain ⟨s0, s1, s2⟩ := hv; go_simp; try with_reducible rfl) ?_
          try simp only [Act.put, List.setIfInBounds_toArray, List.set_cons_zero, List.set_cons_succ]
          refine restS_take (i := 26) S5.out rfl (by kernel_rfl) (by kernel_rfl) (by kernel_rfl) (by rfl) (fun v hv => by obtain ⟨s0, s1, s2⟩ := hv; go_simp; try with_reducible rfl) ?_
          try simp only [Act.put, List.setIfInBounds_toArray, List.set_cons_zero, List.set_cons_succ]
          refine restS_take (i := 27) S5.out rfl (by kernel_rfl) (by kernel_rfl) (by kernel_rfl) (by rfl) (fun v hv => by obtain ⟨s0, s1, s2⟩ := hv; go_simp; try with_reducible rfl) ?_
          try simp only [Act.put, List.setIfInBounds_toArray, List.set_cons_zero, List.set_cons_succ]
          refine restS_take (i := 28) S5.out rfl (by kernel_rfl) (by kernel_rfl) (by kernel_rfl) (by rfl) (fun v hv => by obtain ⟨s0, s1, s2⟩ := hv; go_simp; try with_reducible rfl) ?_
          try simp only [Act.put, List.setIfInBounds_toArray, List.set_cons_zero, List.set_cons_succ]
          refine restS_take (i := 29) S5.out rfl (by kernel_rfl) (by kernel_rfl) (by kernel_rfl) (by rfl) (fun v hv => by obtain ⟨s0, s1, s2⟩ := hv; go_simp; try with_reducible rfl) ?_
          try simp only [Act.put, List.setIfInBounds_toArray, List.set_cons_zero, List.set_cons_succ]
          refine restS_take (i := 30) S5.out rfl (by kernel_rfl) (by kernel_rfl) (by kernel_rfl) (by rfl) (fun v hv => by obtain ⟨s0, s1, s2⟩ := hv; go_simp; try with_reducible rfl) ?_
          try simp only [Act.put, List.setIfInBounds_toArray, List.set_cons_zero, List.set_cons_succ]
          refine restS_take (i := 31) S5.out rfl (by kernel_rfl) (by kernel_rfl) (by kernel_rfl) (by rfl) (fun v hv => by obtain ⟨s0, s1, s2⟩ := hv; go_simp; try with_reducible rfl) ?_
          try simp only [Act.put, List.setIfInBounds_toArray, List.set_cons_zero, List.set_cons_succ]
          refine restS_take (i := 32) S5.out rfl (by kernel_rfl) (by kernel_rfl) (by kernel_rfl) (by rfl) (fun v hv => by obtain ⟨s0, s1, s2⟩ := hv; go_simp; try with_reducible rfl) ?_
          try simp only [Act.put, List.setIfInBounds_toArray, List.set_cons_zero, List.set_cons_succ]
          refine restS_take (i := 33) S5.out rfl (by kernel_rfl) (by kernel_rfl) (by kernel_rfl) (by rfl) (fun v hv => by obtain ⟨s0, s1, s2⟩ := hv; go_simp; try with_reducible rfl) ?_
          try simp only [Act.put, List.setIfInBounds_toArray, List.set_cons_zero, List.set_cons_succ]
          refine restS_done (by kernel_rfl) ?_
          clear S0 S5 SX HWt
          go_wp2
          exact ⟨⟨i + 1, FP, FR, l, st1, by first | rfl | simp | go_num, by omega, HN1.out, Z9.out⟩, by simp [intOf]; omega⟩
      · as_aux_lemma =>
          have ZA := Lib.hid (HZ.out.grow (pcKeeps KKC.out.kept (devKp KK.out) G H room l dv) (pcKeeps (rcKept w.heap.size) (rdKept w.heap.size) Q R room l dv) (alloc_below wr (acO 5 at_ nn Ab nb cb Ak nk ck)))
          have BA := Lib.hid (show Bs (wr.alloc (acO 5 at_ nn Ab nb cb Ak nk ck)) F F2 wr.heap.size (acO 5 at_ nn Ab nb cb Ak nk ck) from bsNew HZ.out _)
          clear HZ
          obtain ⟨st1, hst1⟩ : ∃ st1, st1 = dvLimit dv nn := ⟨_, rfl⟩
          have HN1 := Lib.hid (show KNum 6 room l st1 (i + 1) by rw [hst1]; exact (HN.out.limit nn hn2).up (by omega))
          have HP := Lib.hid (fun (v : World) (hv : Sd (Pc D C G H room l dv) (Pc (RD w.heap.size) (RC w.heap.size) Q R room l dv) w v F F2) => cdLimit KK.out KKC.out.kept hv.p HN.out.ok nn hn1 hn2)
          have HR := Lib.hid (fun (v : World) (FP : Nat → Prop) (hv : Sd (Pc D C G H room l st1) (Pc (RD w.heap.size) (RC w.heap.size) Q R room l dv) w v FP F2) => qLimit hv.q nn)
          rw [← hst1] at HP HR
          clear hst1
          go_wp2_with fail
          obtain ⟨a, ha⟩ : ∃ a, a = wr.heap.size := ⟨_, rfl⟩
          rw [← ha] at BA ⊢
          clear ha d0 d1 d2 d3 d4
          generalize wr.alloc _ = va at ZA BA ⊢
          refine (HP.out va ZA.out).mono ?_
          rintro e v1 ⟨rfl, FP, hcd, hb, hc⟩
          have hs1 := ZA.out.step (P' := Pc D C G H room l st1) (pcKeeps (rcKept w.heap.size) (rdKept w.heap.size) Q R room l dv) hcd (hcd.foot KKC.out.kept (devKp KK.out)) hb hc
          have Z1 := Lib.hid hs1.1
          have B1 := Lib.hid (hs1.2 _ _ BA.out)
          clear hcd hb hc hs1 ZA BA
          obtain ⟨s0, s1, s2, s3, s4⟩ := sa_of B1.out
          go_wp2_with fail
          clear s0 s1 s2 s3 s4
          generalize hvd : v1.drew = vd
          have ZD := Lib.hid (show Sd (Pc D C G H room l st1) (Pc (RD w.heap.size) (RC w.heap.size) Q R room l dv) w vd FP F2 by rw [← hvd]; exact Z1.out.grow (pcKeeps KKC.out.kept (devKp KK.out) G H room l st1) (pcKeeps (rcKept w.heap.size) (rdKept w.heap.size) Q R room l dv) ((Below.refl _ v1).drew))
          have BD := Lib.hid (show Bs vd FP F2 a (acO 5 at_ nn Ab nb cb Ak nk ck) by rw [← hvd]; exact B1.out.grow ((Below.refl _ v1).drew))
          clear Z1 B1
          refine restS_begin (fun v => SA a 5 at_ nn Ab nb cb Ak nk ck v ∧ v.cell? ⟨Q, 0, none⟩ = some (.pointer (some ⟨R, 0, none⟩))) (by kernel_rfl) ?_
          rw [hvd]
          clear hvd
          refine restS_take (i := 0) (And.intro (sa_of BD.out) (q0_of ZD.out.q)) rfl (by kernel_rfl) (by kernel_rfl) (by kernel_rfl) (by rfl) (fun v hv => by obtain ⟨⟨s0, s1, s2, s3, s4⟩, s5⟩ := hv; go_simp; try with_reducible rfl) ?_
          try simp only [Act.put, List.setIfInBounds_toArray, List.set_cons_zero, List.set_cons_succ]
          refine restS_take (i := 1) (And.intro (sa_of BD.out) (q0_of ZD.out.q)) rfl (by kernel_rfl) (by kernel_rfl) (by kernel_rfl) (by rfl) (fun v hv => by obtain ⟨⟨s0, s1, s2, s3, s4⟩, s5⟩ := hv; go_simp; try with_reducible rfl) ?_
          try simp only [Act.put, List.setIfInBounds_toArray, List.set_cons_zero, List.set_cons_succ]
          refine restS_take (i := 2) (And.intro (sa_of BD.out) (q0_of ZD.out.q)) rfl (by kernel_rfl) (by kernel_rfl) (by kernel_rfl) (by rfl) (fun v hv => by obtain ⟨⟨s0, s1, s2, s3, s4⟩, s5⟩ := hv; go_simp; try with_reducible rfl) ?_
          try simp only [Act.put, List.setIfInBounds_toArray, List.set_cons_zero, List.set_cons_succ]
          refine restS_take (i := 3) (And.intro (sa_of BD.out) (q0_of ZD.out.q)) rfl (by kernel_rfl) (by kernel_rfl) (by kernel_rfl) (by rfl) (fun v hv => by obtain ⟨⟨s0, s1, s2, s3, s4⟩, s5⟩ := hv; go_simp; try with_reducible rfl) ?_
          try simp only [Act.put, List.setIfInBounds_toArray, List.set_cons_zero, List.set_cons_succ]
          refine restS_take (i := 4) (And.intro (sa_of BD.out) (q0_of ZD.out.q)) rfl (by kernel_rfl) (by kernel_rfl) (by kernel_rfl) (by rfl) (fun v hv => by obtain ⟨⟨s0, s1, s2, s3, s4⟩, s5⟩ := hv; go_simp; try with_reducible rfl) ?_
          try simp only [Act.put, List.setIfInBounds_toArray, List.set_cons_zero, List.set_cons_succ]
          refine restS_take (i := 5) (And.intro (sa_of BD.out) (q0_of ZD.out.q)) rfl (by kernel_rfl) (by kernel_rfl) (by kernel_rfl) (by rfl) (fun v hv => by obtain ⟨⟨s0, s1, s2, s3, s4⟩, s5⟩ := hv; go_simp; try with_reducible rfl) ?_
          try simp only [Act.put, List.setIfInBounds_toArray, List.set_cons_zero, List.set_cons_succ]
          refine restS_lone (i := 6) rfl (by kernel_rfl) (by rfl) (fun K hK => ?_)
          go_simp
          refine (HR.out vd FP ZD.out).mono ?_
          rintro e vz ⟨rfl, FR, hcd, hb, hc⟩
          have hs1 := ZD.out.swap.step (P' := Pc (RD w.heap.size) (RC w.heap.size) Q R room l st1) (pcKeeps KKC.out.kept (devKp KK.out) G H room l st1) hcd (hcd.foot (rcKept w.heap.size) (rdKept w.heap.size)) hb hc
          have ZZ := Lib.hid hs1.1.swap
          have BZ := Lib.hid (S14.Bs.swap (hs1.2 _ _ (S14.Bs.swap BD.out)))
          clear hcd hb hc hs1 ZD BD HP HR
          refine hK.out _ _ (And.intro (sa_of BZ.out) (q0_of ZZ.out.q)) ?_
          clear hK K
          try simp only [Act.put, List.setIfInBounds_toArray, List.set_cons_zero, List.set_cons_succ]
          refine restS_done (by kernel_rfl) ?_
          clear BZ
          go_wp2_with fail
          generalize hvd : vz.drew = vd
          have ZT := Lib.hid (show Sd (Pc D C G H room l st1) (Pc (RD w.heap.size) (RC w.heap.size) Q R room l st1) w vd FP FR by rw [← hvd]; exact ZZ.out.grow (pcKeeps KKC.out.kept (devKp KK.out) G H room l st1) (pcKeeps (rcKept w.heap.size) (rdKept w.heap.size) Q R room l st1) ((Below.refl _ vz).drew))
          obtain ⟨Ax, cx, Ay, cy, q0, q2, qz, qc, q1, _, _, hQl, hRl⟩ := qCells ZT.out.q
          obtain ⟨lk, hlk⟩ : ∃ lk, lk = l.length := ⟨_, rfl⟩
          obtain ⟨pc, hpc⟩ : ∃ pc, pc = st1.pend.length := ⟨_, rfl⟩
          have HKt := Lib.hid (KKC.out.keeps vd G H FP room l st1 ZT.out.p (by rw [HN1.out.len]; exact HN1.out.ko) (by rw [HN1.out.len]; omega))
          have HWt := Lib.hid (fun (v : World) (hv : Grown vd v) => show Calls Try.prog 28 #[.pointer (some ⟨H, 0, none⟩)] v fun e w' => e = .returned (.int .i64 (st1.pend.length : Int)) ∧ Grown v w' by
            obtain ⟨Fc, Fd, hc, hd, ha, hF⟩ := (ZT.out.grow (pcKeeps KKC.out.kept (devKp KK.out) G H room l st1) (pcKeeps (rcKept w.heap.size) (rdKept w.heap.size) Q R room l st1) hv).p
            exact KK.out.waits v H Fd st1 (i + 1) hd HN1.out.ok (by omega))
          have HKl := Lib.hid (show (keys l).length = lk by rw [keys_len, hlk])
          have HK6 := Lib.hid (show lk ≤ 6 by rw [hlk]; exact HN1.out.ko.few)
          have hlr : ¬ (lk : Int) > (room : Int) := by have := HN1.out.ko.room; omega
          have QZ := Lib.hid qz
          rw [← hlk] at q2 HKt
          rw [← hpc] at q1 qc HWt
          have SX := Lib.hid (show ∀ v : World, Grown vd v → v.cell? ⟨Q, 0, none⟩ = some (.pointer (some ⟨R, 0, none⟩)) ∧ v.cell? ⟨Q, 2, none⟩ = some (.slice Ax lk cx) ∧ v.cell? ⟨R, 1, none⟩ = some (.slice Ay pc cy) from fun v hv => ⟨(hv.cell (p := ⟨Q, 0, none⟩) hQl).trans q0, (hv.cell (p := ⟨Q, 2, none⟩) hQl).trans q2, (hv.cell (p := ⟨R, 1, none⟩) hRl).trans q1⟩)
          have S0 := Lib.hid (SX.out vd (Grown.refl _))
          clear hlk hpc q0 q1 q2 qz hQl hRl ZZ
          refine restS_begin (fun v : World => v.cell? ⟨Q, 0, none⟩ = some (.pointer (some ⟨R, 0, none⟩)) ∧ v.cell? ⟨Q, 2, none⟩ = some (.slice Ax lk cx) ∧ v.cell? ⟨R, 1, none⟩ = some (.slice Ay pc cy)) (by kernel_rfl) ?_
          rw [hvd]
          clear hvd
          refine restS_take (i := 0) S0.out rfl (by kernel_rfl) (by kernel_rfl) (by kernel_rfl) (by rfl) (fun v hv => by obtain ⟨s0, s1, s2⟩ := hv; go_simp; try with_reducible rfl) ?_
          try simp only [Act.put, List.setIfInBounds_toArray, List.set_cons_zero, List.set_cons_succ]
          refine restS_take (i := 1) S0.out rfl (by kernel_rfl) (by kernel_rfl) (by kernel_rfl) (by rfl) (fun v hv => by obtain ⟨s0, s1, s2⟩ := hv; go_simp; try with_reducible rfl) ?_
          try simp only [Act.put, List.setIfInBounds_toArray, List.set_cons_zero, List.set_cons_succ]
          refine restS_take (i := 2) S0.out rfl (by kernel_rfl) (by kernel_rfl) (by kernel_rfl) (by rfl) (fun v hv => by obtain ⟨s0, s1, s2⟩ := hv; go_simp; try with_reducible rfl) ?_
          try simp only [Act.put, List.setIfInBounds_toArray, List.set_cons_zero, List.set_cons_succ]
          refine restS_take (i := 3) S0.out rfl (by kernel_rfl) (by kernel_rfl) (by kernel_rfl) (by rfl) (fun v hv => by obtain ⟨s0, s1, s2⟩ := hv; go_simp; try with_reducible rfl) ?_
          try simp only [Act.put, List.setIfInBounds_toArray, List.set_cons_zero, List.set_cons_succ]
          refine restS_take (i := 5) S0.out rfl (by kernel_rfl) (by kernel_rfl) (by kernel_rfl) (by rfl) (fun v hv => by obtain ⟨s0, s1, s2⟩ := hv; go_simp; try with_reducible rfl) ?_
          try simp only [Act.put, List.setIfInBounds_toArray, List.set_cons_zero, List.set_cons_succ]
          refine restS_take (i := 6) S0.out rfl (by kernel_rfl) (by kernel_rfl) (by kernel_rfl) (by rfl) (fun v hv => by obtain ⟨s0, s1, s2⟩ := hv; go_simp; try with_reducible rfl) ?_
          try simp only [Act.put, List.setIfInBounds_toArray, List.set_cons_zero, List.set_cons_succ]
          refine restS_take (i := 7) S0.out rfl (by kernel_rfl) (by kernel_rfl) (by kernel_rfl) (by rfl) (fun v hv => by obtain ⟨s0, s1, s2⟩ := hv; go_simp; try with_reducible rfl) ?_
          try simp only [Act.put, List.setIfInBounds_toArray, List.set_cons_zero, List.set_cons_succ]
          refine restS_take (i := 8) S0.out rfl (by kernel_rfl) (by kernel_rfl) (by kernel_rfl) (by rfl) (fun v hv => by obtain ⟨s0, s1, s2⟩ := hv; go_simp; try with_reducible rfl) ?_
          try simp only [Act.put, List.setIfInBounds_toArray, List.set_cons_zero, List.set_cons_succ]
          refine restS_lone (i := 4) rfl (by kernel_rfl) (by rfl) (fun K hK => ?_)
          go_simp
          refine (HKt.out).mono ?_
          rintro e v3 ⟨A5, m5, c5, rfl, hm5, hc5, hr5, hg5⟩
          obtain rfl := hm5
          have G3 := Lib.hid hg5
          have S3 := Lib.hid (SX.out v3 hg5)
          have R5 := Lib.hid hr5
          have Q5 := Lib.hid (QZ.out.grow hg5)
          clear hg5 hr5 HKt QZ
          refine hK.out _ _ S3.out ?_
          clear hK K
          try simp only [Act.put, List.setIfInBounds_toArray, List.set_cons_zero, List.set_cons_succ]
          refine restS_lone (i := 9) rfl (by kernel_rfl) (by rfl) (fun K hK => ?_)
          go_simp
          refine (S15.refInts_any (l := keys l) (l2 := keys l) (c := c5) (c2 := cx) (n := lk) (n2 := lk) (show S15.RdZ _ _ A5 (keys l) from R5.out) HKl.out (by have := HK6.out; omega) Q5.out HKl.out (by have := HK6.out; omega)).mono ?_
          rintro e v4 ⟨rfl, hg4⟩
          rw [show decide (keys l = keys l) = true from decide_eq_true rfl]
          have G4 := Lib.hid (G3.out.trans hg4)
          have S4 := Lib.hid (SX.out v4 G4.out)
          clear hg4 R5 Q5 G3 S3
          refine hK.out _ _ S4.out ?_
          clear hK K
          try simp only [Act.put, List.setIfInBounds_toArray, List.set_cons_zero, List.set_cons_succ]
          refine restS_take (i := 10) S4.out rfl (by kernel_rfl) (by kernel_rfl) (by kernel_rfl) (by rfl) (fun v hv => by obtain ⟨s0, s1, s2⟩ := hv; go_simp; try with_reducible rfl) ?_
          try simp only [Act.put, List.setIfInBounds_toArray, List.set_cons_zero, List.set_cons_succ]
          refine restS_take (i := 11) S4.out rfl (by kernel_rfl) (by kernel_rfl) (by kernel_rfl) (by rfl) (fun v hv => by obtain ⟨s0, s1, s2⟩ := hv; go_simp; try with_reducible rfl) ?_
          try simp only [Act.put, List.setIfInBounds_toArray, List.set_cons_zero, List.set_cons_succ]
          refine restS_take (i := 12) S4.out rfl (by kernel_rfl) (by kernel_rfl) (by kernel_rfl) (by rfl) (fun v hv => by obtain ⟨s0, s1, s2⟩ := hv; go_simp; try with_reducible rfl) ?_
          try simp only [Act.put, List.setIfInBounds_toArray, List.set_cons_zero, List.set_cons_succ]
          refine restS_take (i := 13) S4.out rfl (by kernel_rfl) (by kernel_rfl) (by kernel_rfl) (by rfl) (fun v hv => by obtain ⟨s0, s1, s2⟩ := hv; go_simp; try with_reducible rfl) ?_
          try simp only [Act.put, List.setIfInBounds_toArray, List.set_cons_zero, List.set_cons_succ]
          refine restS_take (i := 15) S4.out rfl (by kernel_rfl) (by kernel_rfl) (by kernel_rfl) (by rfl) (fun v hv => by obtain ⟨s0, s1, s2⟩ := hv; go_simp; try with_reducible rfl) ?_
          try simp only [Act.put, List.setIfInBounds_toArray, List.set_cons_zero, List.set_cons_succ]
          refine restS_take (i := 16) S4.out rfl (by kernel_rfl) (by kernel_rfl) (by kernel_rfl) (by rfl) (fun v hv => by obtain ⟨s0, s1, s2⟩ := hv; go_simp; try with_reducible rfl) ?_
          try simp only [Act.put, List.setIfInBounds_toArray, List.set_cons_zero, List.set_cons_succ]
          refine restS_take (i := 17) S4.out rfl (by kernel_rfl) (by kernel_rfl) (by kernel_rfl) (by rfl) (fun v hv => by obtain ⟨s0, s1, s2⟩ := hv; go_simp; try with_reducible rfl) ?_
          try simp only [Act.put, List.setIfInBounds_toArray, List.set_cons_zero, List.set_cons_succ]
          refine restS_take (i := 18) S4.out rfl (by kernel_rfl) (by kernel_rfl) (by kernel_rfl) (by rfl) (fun v hv => by obtain ⟨s0, s1, s2⟩ := hv; go_simp; try with_reducible rfl) ?_
          try simp only [Act.put, List.setIfInBounds_toArray, List.set_cons_zero, List.set_cons_succ]
          refine restS_take (i := 19) S4.out rfl (by kernel_rfl) (by kernel_rfl) (by kernel_rfl) (by rfl) (fun v hv => by obtain ⟨s0, s1, s2⟩ := hv; go_simp; try with_reducible rfl) ?_
          try simp only [Act.put, List.setIfInBounds_toArray, List.set_cons_zero, List.set_cons_succ]
          refine restS_take (i := 20) S4.out rfl (by kernel_rfl) (by kernel_rfl) (by kernel_rfl) (by rfl) (fun v hv => by obtain ⟨s0, s1, s2⟩ := hv; go_simp; try with_reducible rfl) ?_
          try simp only [Act.put, List.setIfInBounds_toArray, List.set_cons_zero, List.set_cons_succ]
          refine restS_take (i := 21) S4.out rfl (by kernel_rfl) (by kernel_rfl) (by kernel_rfl) (by rfl) (fun v hv => by obtain ⟨s0, s1, s2⟩ := hv; go_simp; try with_reducible rfl) ?_
          try simp only [Act.put, List.setIfInBounds_toArray, List.set_cons_zero, List.set_cons_succ]
          refine restS_take (i := 22) S4.out rfl (by kernel_rfl) (by kernel_rfl) (by kernel_rfl) (by rfl) (fun v hv => by obtain ⟨s0, s1, s2⟩ := hv; go_simp; try with_reducible rfl) ?_
          try simp only [Act.put, List.setIfInBounds_toArray, List.set_cons_zero, List.set_cons_succ]
          refine restS_lone (i := 14) rfl (by kernel_rfl) (by rfl) (fun K hK => ?_)
          go_simp
          refine (HWt.out v4 G4.out).mono ?_
          rintro e v5 ⟨rfl, hg5⟩
          have G5 := Lib.hid (G4.out.trans hg5)
          have S5 := Lib.hid (SX.out v5 G5.out)
          have Z9 := Lib.hid (ZT.out.grow (pcKeeps KKC.out.kept (devKp KK.out) G H room l st1) (pcKeeps (rcKept w.heap.size) (rdKept w.heap.size) Q R room l st1) G5.out)
          clear hg5 G4 S4
          refine hK.out _ _ S5.out ?_
          clear hK K
          try simp only [Act.put, List.setIfInBounds_toArray, List.set_cons_zero, List.set_cons_succ]
          refine restS_take (i := 23) S5.out rfl (by kernel_rfl) (by kernel_rfl) (by kernel_rfl) (by rfl) (fun v hv => by obtain ⟨s0, s1, s2⟩ := hv; go_simp; try with_reducible rfl) ?_
          try simp only [Act.put, List.setIfInBounds_toArray, List.set_cons_zero, List.set_cons_succ]
          refine restS_take (i := 24) S5.out rfl (by kernel_rfl) (by kernel_rfl) (by kernel_rfl) (by rfl) (fun v hv => by obtain ⟨s0, s1, s2⟩ := hv; go_simp; try with_reducible rfl) ?_
          try simp only [Act.put, List.setIfInBounds_toArray, List.set_cons_zero, List.set_cons_succ]
          refine restS_take (i := 25) S5.out rfl (by kernel_rfl) (by kernel_rfl) (by kernel_rfl) (by rfl) (fun v hv => by obtain ⟨s0, s1, s2⟩ := hv; go_simp; try with_reducible rfl) ?_
          try simp only [Act.put, List.setIfInBounds_toArray, List.set_cons_zero, List.set_cons_succ]
          refine restS_take (i := 26) S5.out rfl (by kernel_rfl) (by kernel_rfl) (by kernel_rfl) (by rfl) (fun v hv => by obtain ⟨s0, s1, s2⟩ := hv; go_simp; try with_reducible rfl) ?_
          try simp only [Act.put, List.setIfInBounds_toArray, List.set_cons_zero, List.set_cons_succ]
          refine restS_take (i := 27) S5.out rfl (by kernel_rfl) (by kernel_rfl) (by kernel_rfl) (by rfl) (fun v hv => by obtain ⟨s0, s1, s2⟩ := hv; go_simp; try with_reducible rfl) ?_
          try simp only [Act.put, List.setIfInBounds_toArray, List.set_cons_zero, List.set_cons_succ]
          refine restS_take (i := 28) S5.out rfl (by kernel_rfl) (by kernel_rfl) (by kernel_rfl) (by rfl) (fun v hv => by obtain ⟨s0, s1, s2⟩ := hv; go_simp; try with_reducible rfl) ?_
          try simp only [Act.put, List.setIfInBounds_toArray, List.set_cons_zero, List.set_cons_succ]
          refine restS_take (i := 29) S5.out rfl (by kernel_rfl) (by kernel_rfl) (by kernel_rfl) (by rfl) (fun v hv => by obtain ⟨s0, s1, s2⟩ := hv; go_simp; try with_reducible rfl) ?_
          try simp only [Act.put, List.setIfInBounds_toArray, List.set_cons_zero, List.set_cons_succ]
          refine restS_take (i := 30) S5.out rfl (by kernel_rfl) (by kernel_rfl) (by kernel_rfl) (by rfl) (fun v hv => by obtain ⟨s0, s1, s2⟩ := hv; go_simp; try with_reducible rfl) ?_
          try simp only [Act.put, List.setIfInBounds_toArray, List.set_cons_zero, List.set_cons_succ]
          refine restS_take (i := 31) S5.out rfl (by kernel_rfl) (by kernel_rfl) (by kernel_rfl) (by rfl) (fun v hv => by obtain ⟨s0, s1, s2⟩ := hv; go_simp; try with_reducible rfl) ?_
          try simp only [Act.put, List.setIfInBounds_toArray, List.set_cons_zero, List.set_cons_succ]
          refine restS_take (i := 32) S5.out rfl (by kernel_rfl) (by kernel_rfl) (by kernel_rfl) (by rfl) (fun v hv => by obtain ⟨s0, s1, s2⟩ := hv; go_simp; try with_reducible rfl) ?_
          try simp only [Act.put, List.setIfInBounds_toArray, List.set_cons_zero, List.set_cons_succ]
          refine restS_take (i := 33) S5.out rfl (by kernel_rfl) (by kernel_rfl) (by kernel_rfl) (by rfl) (fun v hv => by obtain ⟨s0, s1, s2⟩ := hv; go_simp; try with_reducible rfl) ?_
          try simp only [Act.put, List.setIfInBounds_toArray, List.set_cons_zero, List.set_cons_succ]
          refine restS_done (by kernel_rfl) ?_
          clear S0 S5 SX HWt
          go_wp2
          exact ⟨⟨i + 1, FP, FR, l, st1, by first | rfl | simp | go_num, by omega, HN1.out, Z9.out⟩, by simp [intOf]; omega⟩
      · as_aux_lemma =>
          have ZA := Lib.hid (HZ.out.grow (pcKeeps KKC.out.kept (devKp KK.out) G H room l dv) (pcKeeps (rcKept w.heap.size) (rdKept w.heap.size) Q R room l dv) (alloc_below wr (acO 6 at_ nn Ab nb cb Ak nk ck)))
          have BA := Lib.hid (show Bs (wr.alloc (acO 6 at_ nn Ab nb cb Ak nk ck)) F F2 wr.heap.size (acO 6 at_ nn Ab nb cb Ak nk ck) from bsNew HZ.out _)
          clear HZ
          obtain ⟨er, her⟩ : ∃ er, er = (dvCrash dv kp).1 := ⟨_, rfl⟩
          obtain ⟨st1, hst1⟩ : ∃ st1, st1 = (dvCrash dv kp).2 := ⟨_, rfl⟩
          have HN1 := Lib.hid (show KNum 6 room l st1 (i + 1) by rw [hst1]; exact (HN.out.crash kp).up (by omega))
          have HP := Lib.hid (fun (v : World) (hv : Sd (Pc D C G H room l dv) (Pc (RD w.heap.size) (RC w.heap.size) Q R room l dv) w v F F2) => cdCrash KK.out KKC.out.kept hv.p HN.out.ok (by omega) (by rw [HN.out.len]; omega) Ak nk ck kp (rdN_grow HK3.out hv.gr) HK1.out hk2 (by omega) (fun x hx hne hf => by have h1 := rdN_lt HK3.out hne x hx; have h2 := (hv.pf _ hf).1; omega))
          have HR := Lib.hid (fun (v : World) (FP : Nat → Prop) (hv : Sd (Pc D C G H room l st1) (Pc (RD w.heap.size) (RC w.heap.size) Q R room l dv) w v FP F2) => qCrash hv.q HN.out.ok (by omega) (by rw [HN.out.len]; omega) Ak nk ck kp (rdN_grow HK3.out hv.gr) HK1.out (by omega) (fun x hx hne hf => by have h1 := rdN_lt HK3.out hne x hx; have h2 := (hv.qf _ hf).1; omega))
          rw [← her, ← hst1] at HP HR
          have hbe : (er == er) = true := by simp
          clear her hst1
          go_wp2_with fail
          obtain ⟨a, ha⟩ : ∃ a, a = wr.heap.size := ⟨_, rfl⟩
          rw [← ha] at BA ⊢
          clear ha d0 d1 d2 d3 d4
          generalize wr.alloc _ = va at ZA BA ⊢
          generalize hvd : va.drew = vd
          have ZD := Lib.hid (show Sd (Pc D C G H room l dv) (Pc (RD w.heap.size) (RC w.heap.size) Q R room l dv) w vd F F2 by rw [← hvd]; exact ZA.out.grow (pcKeeps KKC.out.kept (devKp KK.out) G H room l dv) (pcKeeps (rcKept w.heap.size) (rdKept w.heap.size) Q R room l dv) ((Below.refl _ va).drew))
          have BD := Lib.hid (show Bs vd F F2 a (acO 6 at_ nn Ab nb cb Ak nk ck) by rw [← hvd]; exact BA.out.grow ((Below.refl _ va).drew))
          clear ZA BA
          refine restS_begin (fun v => SA a 6 at_ nn Ab nb cb Ak nk ck v ∧ v.cell? ⟨Q, 0, none⟩ = some (.pointer (some ⟨R, 0, none⟩))) (by kernel_rfl) ?_
          rw [hvd]
          clear hvd
          refine restS_take (i := 0) (And.intro (sa_of BD.out) (q0_of ZD.out.q)) rfl (by kernel_rfl) (by kernel_rfl) (by kernel_rfl) (by rfl) (fun v hv => by obtain ⟨⟨s0, s1, s2, s3, s4⟩, s5⟩ := hv; go_simp; try with_reducible rfl) ?_
          try simp only [Act.put, List.setIfInBounds_toArray, List.set_cons_zero, List.set_cons_succ]
          refine restS_take (i := 1) (And.intro (sa_of BD.out) (q0_of ZD.out.q)) rfl (by kernel_rfl) (by kernel_rfl) (by kernel_rfl) (by rfl) (fun v hv => by obtain ⟨⟨s0, s1, s2, s3, s4⟩, s5⟩ := hv; go_simp; try with_reducible rfl) ?_
          try simp only [Act.put, List.setIfInBounds_toArray, List.set_cons_zero, List.set_cons_succ]
          refine restS_take (i := 2) (And.intro (sa_of BD.out) (q0_of ZD.out.q)) rfl (by kernel_rfl) (by kernel_rfl) (by kernel_rfl) (by rfl) (fun v hv => by obtain ⟨⟨s0, s1, s2, s3, s4⟩, s5⟩ := hv; go_simp; try with_reducible rfl) ?_
          try simp only [Act.put, List.setIfInBounds_toArray, List.set_cons_zero, List.set_cons_succ]
          refine restS_take (i := 4) (And.intro (sa_of BD.out) (q0_of ZD.out.q)) rfl (by kernel_rfl) (by kernel_rfl) (by kernel_rfl) (by rfl) (fun v hv => by obtain ⟨⟨s0, s1, s2, s3, s4⟩, s5⟩ := hv; go_simp; try with_reducible rfl) ?_
          try simp only [Act.put, List.setIfInBounds_toArray, List.set_cons_zero, List.set_cons_succ]
          refine restS_take (i := 5) (And.intro (sa_of BD.out) (q0_of ZD.out.q)) rfl (by kernel_rfl) (by kernel_rfl) (by kernel_rfl) (by rfl) (fun v hv => by obtain ⟨⟨s0, s1, s2, s3, s4⟩, s5⟩ := hv; go_simp; try with_reducible rfl) ?_
          try simp only [Act.put, List.setIfInBounds_toArray, List.set_cons_zero, List.set_cons_succ]
          refine restS_take (i := 6) (And.intro (sa_of BD.out) (q0_of ZD.out.q)) rfl (by kernel_rfl) (by kernel_rfl) (by kernel_rfl) (by rfl) (fun v hv => by obtain ⟨⟨s0, s1, s2, s3, s4⟩, s5⟩ := hv; go_simp; try with_reducible rfl) ?_
          try simp only [Act.put, List.setIfInBounds_toArray, List.set_cons_zero, List.set_cons_succ]
          refine restS_take (i := 7) (And.intro (sa_of BD.out) (q0_of ZD.out.q)) rfl (by kernel_rfl) (by kernel_rfl) (by kernel_rfl) (by rfl) (fun v hv => by obtain ⟨⟨s0, s1, s2, s3, s4⟩, s5⟩ := hv; go_simp; try with_reducible rfl) ?_
          try simp only [Act.put, List.setIfInBounds_toArray, List.set_cons_zero, List.set_cons_succ]
          refine restS_take (i := 8) (And.intro (sa_of BD.out) (q0_of ZD.out.q)) rfl (by kernel_rfl) (by kernel_rfl) (by kernel_rfl) (by rfl) (fun v hv => by obtain ⟨⟨s0, s1, s2, s3, s4⟩, s5⟩ := hv; go_simp; try with_reducible rfl) ?_
          try simp only [Act.put, List.setIfInBounds_toArray, List.set_cons_zero, List.set_cons_succ]
          refine restS_take (i := 9) (And.intro (sa_of BD.out) (q0_of ZD.out.q)) rfl (by kernel_rfl) (by kernel_rfl) (by kernel_rfl) (by rfl) (fun v hv => by obtain ⟨⟨s0, s1, s2, s3, s4⟩, s5⟩ := hv; go_simp; try with_reducible rfl) ?_
          try simp only [Act.put, List.setIfInBounds_toArray, List.set_cons_zero, List.set_cons_succ]
          refine restS_lone (i := 3) rfl (by kernel_rfl) (by rfl) (fun K hK => ?_)
          go_simp
          refine (HP.out vd ZD.out).mono ?_
          rintro e v1 ⟨rfl, FP, hcd, hb, hc⟩
          have hs1 := ZD.out.step (P' := Pc D C G H room l st1) (pcKeeps (rcKept w.heap.size) (rdKept w.heap.size) Q R room l dv) hcd (hcd.foot KKC.out.kept (devKp KK.out)) hb hc
          have Z1 := Lib.hid hs1.1
          have B1 := Lib.hid (hs1.2 _ _ BD.out)
          clear hcd hb hc hs1 ZD BD
          refine hK.out _ _ (And.intro (sa_of B1.out) (q0_of Z1.out.q)) ?_
          clear hK K
          try simp only [Act.put, List.setIfInBounds_toArray, List.set_cons_zero, List.set_cons_succ]
          refine restS_lone (i := 10) rfl (by kernel_rfl) (by rfl) (fun K hK => ?_)
          go_simp
          refine (HR.out v1 FP Z1.out).mono ?_
          rintro e vz ⟨rfl, FR, hcd, hb, hc⟩
          have hs1 := Z1.out.swap.step (P' := Pc (RD w.heap.size) (RC w.heap.size) Q R room l st1) (pcKeeps KKC.out.kept (devKp KK.out) G H room l st1) hcd (hcd.foot (rcKept w.heap.size) (rdKept w.heap.size)) hb hc
          have ZZ := Lib.hid hs1.1.swap
          have BZ := Lib.hid (S14.Bs.swap (hs1.2 _ _ (S14.Bs.swap B1.out)))
          clear hcd hb hc hs1 Z1 B1 HP HR
          refine hK.out _ _ (And.intro (sa_of BZ.out) (q0_of ZZ.out.q)) ?_
          clear hK K
          try simp only [Act.put, List.setIfInBounds_toArray, List.set_cons_zero, List.set_cons_succ]
          refine restS_take (i := 11) (And.intro (sa_of BZ.out) (q0_of ZZ.out.q)) rfl (by kernel_rfl) (by kernel_rfl) (by kernel_rfl) (by rfl) (fun v hv => by obtain ⟨⟨s0, s1, s2, s3, s4⟩, s5⟩ := hv; go_simp; try with_reducible rfl) ?_
          try simp only [Act.put, List.setIfInBounds_toArray, List.set_cons_zero, List.set_cons_succ]
          refine restS_take (i := 12) (And.intro (sa_of BZ.out) (q0_of ZZ.out.q)) rfl (by kernel_rfl) (by kernel_rfl) (by kernel_rfl) (by rfl) (fun v hv => by obtain ⟨⟨s0, s1, s2, s3, s4⟩, s5⟩ := hv; go_simp; try with_reducible rfl) ?_
          try simp only [Act.put, List.setIfInBounds_toArray, List.set_cons_zero, List.set_cons_succ]
          refine restS_done (by kernel_rfl) ?_
          clear BZ
          go_wp2_with fail
          generalize hvd : vz.drew = vd
          have ZT := Lib.hid (show Sd (Pc D C G H room l st1) (Pc (RD w.heap.size) (RC w.heap.size) Q R room l st1) w vd FP FR by rw [← hvd]; exact ZZ.out.grow (pcKeeps KKC.out.kept (devKp KK.out) G H room l st1) (pcKeeps (rcKept w.heap.size) (rdKept w.heap.size) Q R room l st1) ((Below.refl _ vz).drew))
          obtain ⟨Ax, cx, Ay, cy, q0, q2, qz, qc, q1, _, _, hQl, hRl⟩ := qCells ZT.out.q
          obtain ⟨lk, hlk⟩ : ∃ lk, lk = l.length := ⟨_, rfl⟩
          obtain ⟨pc, hpc⟩ : ∃ pc, pc = st1.pend.length := ⟨_, rfl⟩
          have HKt := Lib.hid (KKC.out.keeps vd G H FP room l st1 ZT.out.p (by rw [HN1.out.len]; exact HN1.out.ko) (by rw [HN1.out.len]; omega))
          have HWt := Lib.hid (fun (v : World) (hv : Grown vd v) => show Calls Try.prog 28 #[.pointer (some ⟨H, 0, none⟩)] v fun e w' => e = .returned (.int .i64 (st1.pend.length : Int)) ∧ Grown v w' by
            obtain ⟨Fc, Fd, hc, hd, ha, hF⟩ := (ZT.out.grow (pcKeeps KKC.out.kept (devKp KK.out) G H room l st1) (pcKeeps (rcKept w.heap.size) (rdKept w.heap.size) Q R room l st1) hv).p
            exact KK.out.waits v H Fd st1 (i + 1) hd HN1.out.ok (by omega))
          have HKl := Lib.hid (show (keys l).length = lk by rw [keys_len, hlk])
          have HK6 := Lib.hid (show lk ≤ 6 by rw [hlk]; exact HN1.out.ko.few)
          have hlr : ¬ (lk : Int) > (room : Int) := by have := HN1.out.ko.room; omega
          have QZ := Lib.hid qz
          rw [← hlk] at q2 HKt
          rw [← hpc] at q1 qc HWt
          have SX := Lib.hid (show ∀ v : World, Grown vd v → v.cell? ⟨Q, 0, none⟩ = some (.pointer (some ⟨R, 0, none⟩)) ∧ v.cell? ⟨Q, 2, none⟩ = some (.slice Ax lk cx) ∧ v.cell? ⟨R, 1, none⟩ = some (.slice Ay pc cy) from fun v hv => ⟨(hv.cell (p := ⟨Q, 0, none⟩) hQl).trans q0, (hv.cell (p := ⟨Q, 2, none⟩) hQl).trans q2, (hv.cell (p := ⟨R, 1, none⟩) hRl).trans q1⟩)
          have S0 := Lib.hid (SX.out vd (Grown.refl _))
          clear hlk hpc q0 q1 q2 qz hQl hRl ZZ
          refine restS_begin (fun v : World => v.cell? ⟨Q, 0, none⟩ = some (.pointer (some ⟨R, 0, none⟩)) ∧ v.cell? ⟨Q, 2, none⟩ = some (.slice Ax lk cx) ∧ v.cell? ⟨R, 1, none⟩ = some (.slice Ay pc cy)) (by kernel_rfl) ?_
          rw [hvd]
          clear hvd
          refine restS_take (i := 0) S0.out rfl (by kernel_rfl) (by kernel_rfl) (by kernel_rfl) (by rfl) (fun v hv => by obtain ⟨s0, s1, s2⟩ := hv; go_simp; try with_reducible rfl) ?_
          try simp only [Act.put, List.setIfInBounds_toArray, List.set_cons_zero, List.set_cons_succ]
          refine restS_take (i := 1) S0.out rfl (by kernel_rfl) (by kernel_rfl) (by kernel_rfl) (by rfl) (fun v hv => by obtain ⟨s0, s1, s2⟩ := hv; go_simp; try with_reducible rfl) ?_
          try simp only [Act.put, List.setIfInBounds_toArray, List.set_cons_zero, List.set_cons_succ]
          refine restS_take (i := 2) S0.out rfl (by kernel_rfl) (by kernel_rfl) (by kernel_rfl) (by rfl) (fun v hv => by obtain ⟨s0, s1, s2⟩ := hv; go_simp; try with_reducible rfl) ?_
          try simp only [Act.put, List.setIfInBounds_toArray, List.set_cons_zero, List.set_cons_succ]
          refine restS_take (i := 3) S0.out rfl (by kernel_rfl) (by kernel_rfl) (by kernel_rfl) (by rfl) (fun v hv => by obtain ⟨s0, s1, s2⟩ := hv; go_simp; try with_reducible rfl) ?_
          try simp only [Act.put, List.setIfInBounds_toArray, List.set_cons_zero, List.set_cons_succ]
          refine restS_take (i := 5) S0.out rfl (by kernel_rfl) (by kernel_rfl) (by kernel_rfl) (by rfl) (fun v hv => by obtain ⟨s0, s1, s2⟩ := hv; go_simp; try with_reducible rfl) ?_
          try simp only [Act.put, List.setIfInBounds_toArray, List.set_cons_zero, List.set_cons_succ]
          refine restS_take (i := 6) S0.out rfl (by kernel_rfl) (by kernel_rfl) (by kernel_rfl) (by rfl) (fun v hv => by obtain ⟨s0, s1, s2⟩ := hv; go_simp; try with_reducible rfl) ?_
          try simp only [Act.put, List.setIfInBounds_toArray, List.set_cons_zero, List.set_cons_succ]
          refine restS_take (i := 7) S0.out rfl (by kernel_rfl) (by kernel_rfl) (by kernel_rfl) (by rfl) (fun v hv => by obtain ⟨s0, s1, s2⟩ := hv; go_simp; try with_reducible rfl) ?_
          try simp only [Act.put, List.setIfInBounds_toArray, List.set_cons_zero, List.set_cons_succ]
          refine restS_take (i := 8) S0.out rfl (by kernel_rfl) (by kernel_rfl) (by kernel_rfl) (by rfl) (fun v hv => by obtain ⟨s0, s1, s2⟩ := hv; go_simp; try with_reducible rfl) ?_
          try simp only [Act.put, List.setIfInBounds_toArray, List.set_cons_zero, List.set_cons_succ]
          refine restS_lone (i := 4) rfl (by kernel_rfl) (by rfl) (fun K hK => ?_)
          go_simp
          refine (HKt.out).mono ?_
          rintro e v3 ⟨A5, m5, c5, rfl, hm5, hc5, hr5, hg5⟩
          obtain rfl := hm5
          have G3 := Lib.hid hg5
          have S3 := Lib.hid (SX.out v3 hg5)
          have R5 := Lib.hid hr5
          have Q5 := Lib.hid (QZ.out.grow hg5)
          clear hg5 hr5 HKt QZ
          refine hK.out _ _ S3.out ?_
          clear hK K
          try simp only [Act.put, List.setIfInBounds_toArray, List.set_cons_zero, List.set_cons_succ]
          refine restS_lone (i := 9) rfl (by kernel_rfl) (by rfl) (fun K hK => ?_)
          go_simp
          refine (S15.refInts_any (l := keys l) (l2 := keys l) (c := c5) (c2 := cx) (n := lk) (n2 := lk) (show S15.RdZ _ _ A5 (keys l) from R5.out) HKl.out (by have := HK6.out; omega) Q5.out HKl.out (by have := HK6.out; omega)).mono ?_
          rintro e v4 ⟨rfl, hg4⟩
          rw [show decide (keys l = keys l) = true from decide_eq_true rfl]
          have G4 := Lib.hid (G3.out.trans hg4)
          have S4 := Lib.hid (SX.out v4 G4.out)
          clear hg4 R5 Q5 G3 S3
          refine hK.out _ _ S4.out ?_
          clear hK K
          try simp only [Act.put, List.setIfInBounds_toArray, List.set_cons_zero, List.set_cons_succ]
          refine restS_take (i := 10) S4.out rfl (by kernel_rfl) (by kernel_rfl) (by kernel_rfl) (by rfl) (fun v hv => by obtain ⟨s0, s1, s2⟩ := hv; go_simp; try with_reducible rfl) ?_
          try simp only [Act.put, List.setIfInBounds_toArray, List.set_cons_zero, List.set_cons_succ]
          refine restS_take (i := 11) S4.out rfl (by kernel_rfl) (by kernel_rfl) (by kernel_rfl) (by rfl) (fun v hv => by obtain ⟨s0, s1, s2⟩ := hv; go_simp; try with_reducible rfl) ?_
          try simp only [Act.put, List.setIfInBounds_toArray, List.set_cons_zero, List.set_cons_succ]
          refine restS_take (i := 12) S4.out rfl (by kernel_rfl) (by kernel_rfl) (by kernel_rfl) (by rfl) (fun v hv => by obtain ⟨s0, s1, s2⟩ := hv; go_simp; try with_reducible rfl) ?_
          try simp only [Act.put, List.setIfInBounds_toArray, List.set_cons_zero, List.set_cons_succ]
          refine restS_take (i := 13) S4.out rfl (by kernel_rfl) (by kernel_rfl) (by kernel_rfl) (by rfl) (fun v hv => by obtain ⟨s0, s1, s2⟩ := hv; go_simp; try with_reducible rfl) ?_
          try simp only [Act.put, List.setIfInBounds_toArray, List.set_cons_zero, List.set_cons_succ]
          refine restS_take (i := 15) S4.out rfl (by kernel_rfl) (by kernel_rfl) (by kernel_rfl) (by rfl) (fun v hv => by obtain ⟨s0, s1, s2⟩ := hv; go_simp; try with_reducible rfl) ?_
          try simp only [Act.put, List.setIfInBounds_toArray, List.set_cons_zero, List.set_cons_succ]
          refine restS_take (i := 16) S4.out rfl (by kernel_rfl) (by kernel_rfl) (by kernel_rfl) (by rfl) (fun v hv => by obtain ⟨s0, s1, s2⟩ := hv; go_simp; try with_reducible rfl) ?_
          try simp only [Act.put, List.setIfInBounds_toArray, List.set_cons_zero, List.set_cons_succ]
          refine restS_take (i := 17) S4.out rfl (by kernel_rfl) (by kernel_rfl) (by kernel_rfl) (by rfl) (fun v hv => by obtain ⟨s0, s1, s2⟩ := hv; go_simp; try with_reducible rfl) ?_
          try simp only [Act.put, List.setIfInBounds_toArray, List.set_cons_zero, List.set_cons_succ]
          refine restS_take (i := 18) S4.out rfl (by kernel_rfl) (by kernel_rfl) (by kernel_rfl) (by rfl) (fun v hv => by obtain ⟨s0, s1, s2⟩ := hv; go_simp; try with_reducible rfl) ?_
          try simp only [Act.put, List.setIfInBounds_toArray, List.set_cons_zero, List.set_cons_succ]
          refine restS_take (i := 19) S4.out rfl (by kernel_rfl) (by kernel_rfl) (by kernel_rfl) (by rfl) (fun v hv => by obtain ⟨s0, s1, s2⟩ := hv; go_simp; try with_reducible rfl) ?_
          try simp only [Act.put, List.setIfInBounds_toArray, List.set_cons_zero, List.set_cons_succ]
          refine restS_take (i := 20) S4.out rfl (by kernel_rfl) (by kernel_rfl) (by kernel_rfl) (by rfl) (fun v hv => by obtain ⟨s0, s1, s2⟩ := hv; go_simp; try with_reducible rfl) ?_
          try simp only [Act.put, List.setIfInBounds_toArray, List.set_cons_zero, List.set_cons_succ]
          refine restS_take (i := 21) S4.out rfl (by kernel_rfl) (by kernel_rfl) (by kernel_rfl) (by rfl) (fun v hv => by obtain ⟨s0, s1, s2⟩ := hv; go_simp; try with_reducible rfl) ?_
          try simp only [Act.put, List.setIfInBounds_toArray, List.set_cons_zero, List.set_cons_succ]
          refine restS_take (i := 22) S4.out rfl (by kernel_rfl) (by kernel_rfl) (by kernel_rfl) (by rfl) (fun v hv => by obtain ⟨s0, s1, s2⟩ := hv; go_simp; try with_reducible rfl) ?_
          try simp only [Act.put, List.setIfInBounds_toArray, List.set_cons_zero, List.set_cons_succ]
          refine restS_lone (i := 14) rfl (by kernel_rfl) (by rfl) (fun K hK => ?_)
          go_simp
          refine (HWt.out v4 G4.out).mono ?_
          rintro e v5 ⟨rfl, hg5⟩
          have G5 := Lib.hid (G4.out.trans hg5)
          have S5 := Lib.hid (SX.out v5 G5.out)
          have Z9 := Lib.hid (ZT.out.grow (pcKeeps KKC.out.kept (devKp KK.out) G H room l st1) (pcKeeps (rcKept w.heap.size) (rdKept w.heap.size) Q R room l st1) G5.out)
          clear hg5 G4 S4
          refine hK.out _ _ S5.out ?_
          clear hK K
          try simp only [Act.put, List.setIfInBounds_toArray, List.set_cons_zero, List.set_cons_succ]
          refine restS_take (i := 23) S5.out rfl (by kernel_rfl) (by kernel_rfl) (by kernel_rfl) (by rfl) (fun v hv => by obtain ⟨s0, s1, s2⟩ := hv; go_simp; try with_reducible rfl) ?_
          try simp only [Act.put, List.setIfInBounds_toArray, List.set_cons_zero, List.set_cons_succ]
          refine restS_take (i := 24) S5.out rfl (by kernel_rfl) (by kernel_rfl) (by kernel_rfl) (by rfl) (fun v hv => by obtain ⟨s0, s1, s2⟩ := hv; go_simp; try with_reducible rfl) ?_
          try simp only [Act.put, List.setIfInBounds_toArray, List.set_cons_zero, List.set_cons_succ]
          refine restS_take (i := 25) S5.out rfl (by kernel_rfl) (by kernel_rfl) (by kernel_rfl) (by rfl) (fun v hv => by obtain ⟨s0, s1, s2⟩ := hv; go_simp; try with_reducible rfl) ?_
          try simp only [Act.put, List.setIfInBounds_toArray, List.set_cons_zero, List.set_cons_succ]
          refine restS_take (i := 26) S5.out rfl (by kernel_rfl) (by kernel_rfl) (by kernel_rfl) (by rfl) (fun v hv => by obtain ⟨s0, s1, s2⟩ := hv; go_simp; try with_reducible rfl) ?_
          try simp only [Act.put, List.setIfInBounds_toArray, List.set_cons_zero, List.set_cons_succ]
          refine restS_take (i := 27) S5.out rfl (by kernel_rfl) (by kernel_rfl) (by kernel_rfl) (by rfl) (fun v hv => by obtain ⟨s0, s1, s2⟩ := hv; go_simp; try with_reducible rfl) ?_
          try simp only [Act.put, List.setIfInBounds_toArray, List.set_cons_zero, List.set_cons_succ]
          refine restS_take (i := 28) S5.out rfl (by kernel_rfl) (by kernel_rfl) (by kernel_rfl) (by rfl) (fun v hv => by obtain ⟨s0, s1, s2⟩ := hv; go_simp; try with_reducible rfl) ?_
          try simp only [Act.put, List.setIfInBounds_toArray, List.set_cons_zero, List.set_cons_succ]
          refine restS_take (i := 29) S5.out rfl (by kernel_rfl) (by kernel_rfl) (by kernel_rfl) (by rfl) (fun v hv => by obtain ⟨s0, s1, s2⟩ := hv; go_simp; try with_reducible rfl) ?_
          try simp only [Act.put, List.setIfInBounds_toArray, List.set_cons_zero, List.set_cons_succ]
          refine restS_take (i := 30) S5.out rfl (by kernel_rfl) (by kernel_rfl) (by kernel_rfl) (by rfl) (fun v hv => by obtain ⟨s0, s1, s2⟩ := hv; go_simp; try with_reducible rfl) ?_
          try simp only [Act.put, List.setIfInBounds_toArray, List.set_cons_zero, List.set_cons_succ]
          refine restS_take (i := 31) S5.out rfl (by kernel_rfl) (by kernel_rfl) (by kernel_rfl) (by rfl) (fun v hv => by obtain ⟨s0, s1, s2⟩ := hv; go_simp; try with_reducible rfl) ?_
          try simp only [Act.put, List.setIfInBounds_toArray, List.set_cons_zero, List.set_cons_succ]
          refine restS_take (i := 32) S5.out rfl (by kernel_rfl) (by kernel_rfl) (by kernel_rfl) (by rfl) (fun v hv => by obtain ⟨s0, s1, s2⟩ := hv; go_simp; try with_reducible rfl) ?_
          try simp only [Act.put, List.setIfInBounds_toArray, List.set_cons_zero, List.set_cons_succ]
          refine restS_take (i := 33) S5.out rfl (by kernel_rfl) (by kernel_rfl) (by kernel_rfl) (by rfl) (fun v hv => by obtain ⟨s0, s1, s2⟩ := hv; go_simp; try with_reducible rfl) ?_
          try simp only [Act.put, List.setIfInBounds_toArray, List.set_cons_zero, List.set_cons_succ]
          refine restS_done (by kernel_rfl) ?_
          clear S0 S5 SX HWt
          go_wp2
          exact ⟨⟨i + 1, FP, FR, l, st1, by first | rfl | simp | go_num, by omega, HN1.out, Z9.out⟩, by simp [intOf]; omega⟩
      · as_aux_lemma =>
          have ZA := Lib.hid (HZ.out.grow (pcKeeps KKC.out.kept (devKp KK.out) G H room l dv) (pcKeeps (rcKept w.heap.size) (rdKept w.heap.size) Q R room l dv) (alloc_below wr (acO 7 at_ nn Ab nb cb Ak nk ck)))
          have BA := Lib.hid (show Bs (wr.alloc (acO 7 at_ nn Ab nb cb Ak nk ck)) F F2 wr.heap.size (acO 7 at_ nn Ab nb cb Ak nk ck) from bsNew HZ.out _)
          clear HZ
          obtain ⟨er, her⟩ : ∃ er, er = (dvTamper dv at_ bb).1 := ⟨_, rfl⟩
          obtain ⟨st1, hst1⟩ : ∃ st1, st1 = (dvTamper dv at_ bb).2 := ⟨_, rfl⟩
          have HN1 := Lib.hid (show KNum 6 room l st1 (i + 1) by rw [hst1]; exact (HN.out.tamper at_ bb).up (by omega))
          have HP := Lib.hid (fun (v : World) (hv : Sd (Pc D C G H room l dv) (Pc (RD w.heap.size) (RC w.heap.size) Q R room l dv) w v F F2) => cdTamper KK.out KKC.out.kept hv.p HN.out.ok (by omega) (by rw [HN.out.len]; omega) at_ Ab nb cb bb (HB3.out.grow hv.gr) HB1.out hb2 (by omega) (fun x hx hne hf => by have h1 := rd_lt13 HB3.out hne x hx; have h2 := (hv.pf _ hf).1; omega))
          have HR := Lib.hid (fun (v : World) (FP : Nat → Prop) (hv : Sd (Pc D C G H room l st1) (Pc (RD w.heap.size) (RC w.heap.size) Q R room l dv) w v FP F2) => qTamper hv.q HN.out.ok (by omega) (by rw [HN.out.len]; omega) at_ Ab nb cb bb (HB3.out.grow hv.gr) HB1.out (by omega) (fun x hx hne hf => by have h1 := rd_lt13 HB3.out hne x hx; have h2 := (hv.qf _ hf).1; omega))
          rw [← her, ← hst1] at HP HR
          have hbe : (er == er) = true := by simp
          clear her hst1
          go_wp2_with fail
          obtain ⟨a, ha⟩ : ∃ a, a = wr.heap.size := ⟨_, rfl⟩
          rw [← ha] at BA ⊢
          clear ha d0 d1 d2 d3 d4
          generalize wr.alloc _ = va at ZA BA ⊢
          generalize hvd : va.drew = vd
          have ZD := Lib.hid (show Sd (Pc D C G H room l dv) (Pc (RD w.heap.size) (RC w.heap.size) Q R room l dv) w vd F F2 by rw [← hvd]; exact ZA.out.grow (pcKeeps KKC.out.kept (devKp KK.out) G H room l dv) (pcKeeps (rcKept w.heap.size) (rdKept w.heap.size) Q R room l dv) ((Below.refl _ va).drew))
          have BD := Lib.hid (show Bs vd F F2 a (acO 7 at_ nn Ab nb cb Ak nk ck) by rw [← hvd]; exact BA.out.grow ((Below.refl _ va).drew))
          clear ZA BA
          refine restS_begin (fun v => SA a 7 at_ nn Ab nb cb Ak nk ck v ∧ v.cell? ⟨Q, 0, none⟩ = some (.pointer (some ⟨R, 0, none⟩))) (by kernel_rfl) ?_
          rw [hvd]
          clear hvd
          refine restS_take (i := 0) (And.intro (sa_of BD.out) (q0_of ZD.out.q)) rfl (by kernel_rfl) (by kernel_rfl) (by kernel_rfl) (by rfl) (fun v hv => by obtain ⟨⟨s0, s1, s2, s3, s4⟩, s5⟩ := hv; go_simp; try with_reducible rfl) ?_
          try simp only [Act.put, List.setIfInBounds_toArray, List.set_cons_zero, List.set_cons_succ]
          refine restS_take (i := 1) (And.intro (sa_of BD.out) (q0_of ZD.out.q)) rfl (by kernel_rfl) (by kernel_rfl) (by kernel_rfl) (by rfl) (fun v hv => by obtain ⟨⟨s0, s1, s2, s3, s4⟩, s5⟩ := hv; go_simp; try with_reducible rfl) ?_
          try simp only [Act.put, List.setIfInBounds_toArray, List.set_cons_zero, List.set_cons_succ]
          refine restS_take (i := 2) (And.intro (sa_of BD.out) (q0_of ZD.out.q)) rfl (by kernel_rfl) (by kernel_rfl) (by kernel_rfl) (by rfl) (fun v hv => by obtain ⟨⟨s0, s1, s2, s3, s4⟩, s5⟩ := hv; go_simp; try with_reducible rfl) ?_
          try simp only [Act.put, List.setIfInBounds_toArray, List.set_cons_zero, List.set_cons_succ]
          refine restS_take (i := 3) (And.intro (sa_of BD.out) (q0_of ZD.out.q)) rfl (by kernel_rfl) (by kernel_rfl) (by kernel_rfl) (by rfl) (fun v hv => by obtain ⟨⟨s0, s1, s2, s3, s4⟩, s5⟩ := hv; go_simp; try with_reducible rfl) ?_
          try simp only [Act.put, List.setIfInBounds_toArray, List.set_cons_zero, List.set_cons_succ]
          refine restS_take (i := 4) (And.intro (sa_of BD.out) (q0_of ZD.out.q)) rfl (by kernel_rfl) (by kernel_rfl) (by kernel_rfl) (by rfl) (fun v hv => by obtain ⟨⟨s0, s1, s2, s3, s4⟩, s5⟩ := hv; go_simp; try with_reducible rfl) ?_
          try simp only [Act.put, List.setIfInBounds_toArray, List.set_cons_zero, List.set_cons_succ]
          refine restS_take (i := 6) (And.intro (sa_of BD.out) (q0_of ZD.out.q)) rfl (by kernel_rfl) (by kernel_rfl) (by kernel_rfl) (by rfl) (fun v hv => by obtain ⟨⟨s0, s1, s2, s3, s4⟩, s5⟩ := hv; go_simp; try with_reducible rfl) ?_
          try simp only [Act.put, List.setIfInBounds_toArray, List.set_cons_zero, List.set_cons_succ]
          refine restS_take (i := 7) (And.intro (sa_of BD.out) (q0_of ZD.out.q)) rfl (by kernel_rfl) (by kernel_rfl) (by kernel_rfl) (by rfl) (fun v hv => by obtain ⟨⟨s0, s1, s2, s3, s4⟩, s5⟩ := hv; go_simp; try with_reducible rfl) ?_
          try simp only [Act.put, List.setIfInBounds_toArray, List.set_cons_zero, List.set_cons_succ]
          refine restS_take (i := 8) (And.intro (sa_of BD.out) (q0_of ZD.out.q)) rfl (by kernel_rfl) (by kernel_rfl) (by kernel_rfl) (by rfl) (fun v hv => by obtain ⟨⟨s0, s1, s2, s3, s4⟩, s5⟩ := hv; go_simp; try with_reducible rfl) ?_
          try simp only [Act.put, List.setIfInBounds_toArray, List.set_cons_zero, List.set_cons_succ]
          refine restS_take (i := 9) (And.intro (sa_of BD.out) (q0_of ZD.out.q)) rfl (by kernel_rfl) (by kernel_rfl) (by kernel_rfl) (by rfl) (fun v hv => by obtain ⟨⟨s0, s1, s2, s3, s4⟩, s5⟩ := hv; go_simp; try with_reducible rfl) ?_
          try simp only [Act.put, List.setIfInBounds_toArray, List.set_cons_zero, List.set_cons_succ]
          refine restS_take (i := 10) (And.intro (sa_of BD.out) (q0_of ZD.out.q)) rfl (by kernel_rfl) (by kernel_rfl) (by kernel_rfl) (by rfl) (fun v hv => by obtain ⟨⟨s0, s1, s2, s3, s4⟩, s5⟩ := hv; go_simp; try with_reducible rfl) ?_
          try simp only [Act.put, List.setIfInBounds_toArray, List.set_cons_zero, List.set_cons_succ]
          refine restS_take (i := 11) (And.intro (sa_of BD.out) (q0_of ZD.out.q)) rfl (by kernel_rfl) (by kernel_rfl) (by kernel_rfl) (by rfl) (fun v hv => by obtain ⟨⟨s0, s1, s2, s3, s4⟩, s5⟩ := hv; go_simp; try with_reducible rfl) ?_
          try simp only [Act.put, List.setIfInBounds_toArray, List.set_cons_zero, List.set_cons_succ]
          refine restS_take (i := 12) (And.intro (sa_of BD.out) (q0_of ZD.out.q)) rfl (by kernel_rfl) (by kernel_rfl) (by kernel_rfl) (by rfl) (fun v hv => by obtain ⟨⟨s0, s1, s2, s3, s4⟩, s5⟩ := hv; go_simp; try with_reducible rfl) ?_
          try simp only [Act.put, List.setIfInBounds_toArray, List.set_cons_zero, List.set_cons_succ]
          refine restS_take (i := 13) (And.intro (sa_of BD.out) (q0_of ZD.out.q)) rfl (by kernel_rfl) (by kernel_rfl) (by kernel_rfl) (by rfl) (fun v hv => by obtain ⟨⟨s0, s1, s2, s3, s4⟩, s5⟩ := hv; go_simp; try with_reducible rfl) ?_
          try simp only [Act.put, List.setIfInBounds_toArray, List.set_cons_zero, List.set_cons_succ]
          refine restS_lone (i := 5) rfl (by kernel_rfl) (by rfl) (fun K hK => ?_)
          go_simp
          refine (HP.out vd ZD.out).mono ?_
          rintro e v1 ⟨rfl, FP, hcd, hb, hc⟩
          have hs1 := ZD.out.step (P' := Pc D C G H room l st1) (pcKeeps (rcKept w.heap.size) (rdKept w.heap.size) Q R room l dv) hcd (hcd.foot KKC.out.kept (devKp KK.out)) hb hc
          have Z1 := Lib.hid hs1.1
          have B1 := Lib.hid (hs1.2 _ _ BD.out)
          clear hcd hb hc hs1 ZD BD
          refine hK.out _ _ (And.intro (sa_of B1.out) (q0_of Z1.out.q)) ?_
          clear hK K
          try simp only [Act.put, List.setIfInBounds_toArray, List.set_cons_zero, List.set_cons_succ]
          refine restS_lone (i := 14) rfl (by kernel_rfl) (by rfl) (fun K hK => ?_)
          go_simp
          refine (HR.out v1 FP Z1.out).mono ?_
          rintro e vz ⟨rfl, FR, hcd, hb, hc⟩
          have hs1 := Z1.out.swap.step (P' := Pc (RD w.heap.size) (RC w.heap.size) Q R room l st1) (pcKeeps KKC.out.kept (devKp KK.out) G H room l st1) hcd (hcd.foot (rcKept w.heap.size) (rdKept w.heap.size)) hb hc
          have ZZ := Lib.hid hs1.1.swap
          have BZ := Lib.hid (S14.Bs.swap (hs1.2 _ _ (S14.Bs.swap B1.out)))
          clear hcd hb hc hs1 Z1 B1 HP HR
          refine hK.out _ _ (And.intro (sa_of BZ.out) (q0_of ZZ.out.q)) ?_
          clear hK K
          try simp only [Act.put, List.setIfInBounds_toArray, List.set_cons_zero, List.set_cons_succ]
          refine restS_take (i := 15) (And.intro (sa_of BZ.out) (q0_of ZZ.out.q)) rfl (by kernel_rfl) (by kernel_rfl) (by kernel_rfl) (by rfl) (fun v hv => by obtain ⟨⟨s0, s1, s2, s3, s4⟩, s5⟩ := hv; go_simp; try with_reducible rfl) ?_
          try simp only [Act.put, List.setIfInBounds_toArray, List.set_cons_zero, List.set_cons_succ]
          refine restS_take (i := 16) (And.intro (sa_of BZ.out) (q0_of ZZ.out.q)) rfl (by kernel_rfl) (by kernel_rfl) (by kernel_rfl) (by rfl) (fun v hv => by obtain ⟨⟨s0, s1, s2, s3, s4⟩, s5⟩ := hv; go_simp; try with_reducible rfl) ?_
          try simp only [Act.put, List.setIfInBounds_toArray, List.set_cons_zero, List.set_cons_succ]
          refine restS_done (by kernel_rfl) ?_
          clear BZ
          go_wp2_with fail
          generalize hvd : vz.drew = vd
          have ZT := Lib.hid (show Sd (Pc D C G H room l st1) (Pc (RD w.heap.size) (RC w.heap.size) Q R room l st1) w vd FP FR by rw [← hvd]; exact ZZ.out.grow (pcKeeps KKC.out.kept (devKp KK.out) G H room l st1) (pcKeeps (rcKept w.heap.size) (rdKept w.heap.size) Q R room l st1) ((Below.refl _ vz).drew))
          obtain ⟨Ax, cx, Ay, cy, q0, q2, qz, qc, q1, _, _, hQl, hRl⟩ := qCells ZT.out.q
          obtain ⟨lk, hlk⟩ : ∃ lk, lk = l.length := ⟨_, rfl⟩
          obtain ⟨pc, hpc⟩ : ∃ pc, pc = st1.pend.length := ⟨_, rfl⟩
          have HKt := Lib.hid (KKC.out.keeps vd G H FP room l st1 ZT.out.p (by rw [HN1.out.len]; exact HN1.out.ko) (by rw [HN1.out.len]; omega))
          have HWt := Lib.hid (fun (v : World) (hv : Grown vd v) => show Calls Try.prog 28 #[.pointer (some ⟨H, 0, none⟩)] v fun e w' => e = .returned (.int .i64 (st1.pend.length : Int)) ∧ Grown v w' by
            obtain ⟨Fc, Fd, hc, hd, ha, hF⟩ := (ZT.out.grow (pcKeeps KKC.out.kept (devKp KK.out) G H room l st1) (pcKeeps (rcKept w.heap.size) (rdKept w.heap.size) Q R room l st1) hv).p
            exact KK.out.waits v H Fd st1 (i + 1) hd HN1.out.ok (by omega))
          have HKl := Lib.hid (show (keys l).length = lk by rw [keys_len, hlk])
          have HK6 := Lib.hid (show lk ≤ 6 by rw [hlk]; exact HN1.out.ko.few)
          have hlr : ¬ (lk : Int) > (room : Int) := by have := HN1.out.ko.room; omega
          have QZ := Lib.hid qz
          rw [← hlk] at q2 HKt
          rw [← hpc] at q1 qc HWt
          have SX := Lib.hid (show ∀ v : World, Grown vd v → v.cell? ⟨Q, 0, none⟩ = some (.pointer (some ⟨R, 0, none⟩)) ∧ v.cell? ⟨Q, 2, none⟩ = some (.slice Ax lk cx) ∧ v.cell? ⟨R, 1, none⟩ = some (.slice Ay pc cy) from fun v hv => ⟨(hv.cell (p := ⟨Q, 0, none⟩) hQl).trans q0, (hv.cell (p := ⟨Q, 2, none⟩) hQl).trans q2, (hv.cell (p := ⟨R, 1, none⟩) hRl).trans q1⟩)
          have S0 := Lib.hid (SX.out vd (Grown.refl _))
          clear hlk hpc q0 q1 q2 qz hQl hRl ZZ
          refine restS_begin (fun v : World => v.cell? ⟨Q, 0, none⟩ = some (.pointer (some ⟨R, 0, none⟩)) ∧ v.cell? ⟨Q, 2, none⟩ = some (.slice Ax lk cx) ∧ v.cell? ⟨R, 1, none⟩ = some (.slice Ay pc cy)) (by kernel_rfl) ?_
          rw [hvd]
          clear hvd
          refine restS_take (i := 0) S0.out rfl (by kernel_rfl) (by kernel_rfl) (by kernel_rfl) (by rfl) (fun v hv => by obtain ⟨s0, s1, s2⟩ := hv; go_simp; try with_reducible rfl) ?_
          try simp only [Act.put, List.setIfInBounds_toArray, List.set_cons_zero, List.set_cons_succ]
          refine restS_take (i := 1) S0.out rfl (by kernel_rfl) (by kernel_rfl) (by kernel_rfl) (by rfl) (fun v hv => by obtain ⟨s0, s1, s2⟩ := hv; go_simp; try with_reducible rfl) ?_
          try simp only [Act.put, List.setIfInBounds_toArray, List.set_cons_zero, List.set_cons_succ]
          refine restS_take (i := 2) S0.out rfl (by kernel_rfl) (by kernel_rfl) (by kernel_rfl) (by rfl) (fun v hv => by obtain ⟨s0, s1, s2⟩ := hv; go_simp; try with_reducible rfl) ?_
          try simp only [Act.put, List.setIfInBounds_toArray, List.set_cons_zero, List.set_cons_succ]
          refine restS_take (i := 3) S0.out rfl (by kernel_rfl) (by kernel_rfl) (by kernel_rfl) (by rfl) (fun v hv => by obtain ⟨s0, s1, s2⟩ := hv; go_simp; try with_reducible rfl) ?_
          try simp only [Act.put, List.setIfInBounds_toArray, List.set_cons_zero, List.set_cons_succ]
          refine restS_take (i := 5) S0.out rfl (by kernel_rfl) (by kernel_rfl) (by kernel_rfl) (by rfl) (fun v hv => by obtain ⟨s0, s1, s2⟩ := hv; go_simp; try with_reducible rfl) ?_
          try simp only [Act.put, List.setIfInBounds_toArray, List.set_cons_zero, List.set_cons_succ]
          refine restS_take (i := 6) S0.out rfl (by kernel_rfl) (by kernel_rfl) (by kernel_rfl) (by rfl) (fun v hv => by obtain ⟨s0, s1, s2⟩ := hv; go_simp; try with_reducible rfl) ?_
          try simp only [Act.put, List.setIfInBounds_toArray, List.set_cons_zero, List.set_cons_succ]
          refine restS_take (i := 7) S0.out rfl (by kernel_rfl) (by kernel_rfl) (by kernel_rfl) (by rfl) (fun v hv => by obtain ⟨s0, s1, s2⟩ := hv; go_simp; try with_reducible rfl) ?_
          try simp only [Act.put, List.setIfInBounds_toArray, List.set_cons_zero, List.set_cons_succ]
          refine restS_take (i := 8) S0.out rfl (by kernel_rfl) (by kernel_rfl) (by kernel_rfl) (by rfl) (fun v hv => by obtain ⟨s0, s1, s2⟩ := hv; go_simp; try with_reducible rfl) ?_
          try simp only [Act.put, List.setIfInBounds_toArray, List.set_cons_zero, List.set_cons_succ]
          refine restS_lone (i := 4) rfl (by kernel_rfl) (by rfl) (fun K hK => ?_)
          go_simp
          refine (HKt.out).mono ?_
          rintro e v3 ⟨A5, m5, c5, rfl, hm5, hc5, hr5, hg5⟩
          obtain rfl := hm5
          have G3 := Lib.hid hg5
          have S3 := Lib.hid (SX.out v3 hg5)
          have R5 := Lib.hid hr5
          have Q5 := Lib.hid (QZ.out.grow hg5)
          clear hg5 hr5 HKt QZ
          refine hK.out _ _ S3.out ?_
          clear hK K
          try simp only [Act.put, List.setIfInBounds_toArray, List.set_cons_zero, List.set_cons_succ]
          refine restS_lone (i := 9) rfl (by kernel_rfl) (by rfl) (fun K hK => ?_)
          go_simp
          refine (S15.refInts_any (l := keys l) (l2 := keys l) (c := c5) (c2 := cx) (n := lk) (n2 := lk) (show S15.RdZ _ _ A5 (keys l) from R5.out) HKl.out (by have := HK6.out; omega) Q5.out HKl.out (by have := HK6.out; omega)).mono ?_
          rintro e v4 ⟨rfl, hg4⟩
          rw [show decide (keys l = keys l) = true from decide_eq_true rfl]
          have G4 := Lib.hid (G3.out.trans hg4)
          have S4 := Lib.hid (SX.out v4 G4.out)
          clear hg4 R5 Q5 G3 S3
          refine hK.out _ _ S4.out ?_
          clear hK K
          try simp only [Act.put, List.setIfInBounds_toArray, List.set_cons_zero, List.set_cons_succ]
          refine restS_take (i := 10) S4.out rfl (by kernel_rfl) (by kernel_rfl) (by kernel_rfl) (by rfl) (fun v hv => by obtain ⟨s0, s1, s2⟩ := hv; go_simp; try with_reducible rfl) ?_
          try simp only [Act.put, List.setIfInBounds_toArray, List.set_cons_zero, List.set_cons_succ]
          refine restS_take (i := 11) S4.out rfl (by kernel_rfl) (by kernel_rfl) (by kernel_rfl) (by rfl) (fun v hv => by obtain ⟨s0, s1, s2⟩ := hv; go_simp; try with_reducible rfl) ?_
          try simp only [Act.put, List.setIfInBounds_toArray, List.set_cons_zero, List.set_cons_succ]
          refine restS_take (i := 12) S4.out rfl (by kernel_rfl) (by kernel_rfl) (by kernel_rfl) (by rfl) (fun v hv => by obtain ⟨s0, s1, s2⟩ := hv; go_simp; try with_reducible rfl) ?_
          try simp only [Act.put, List.setIfInBounds_toArray, List.set_cons_zero, List.set_cons_succ]
          refine restS_take (i := 13) S4.out rfl (by kernel_rfl) (by kernel_rfl) (by kernel_rfl) (by rfl) (fun v hv => by obtain ⟨s0, s1, s2⟩ := hv; go_simp; try with_reducible rfl) ?_
          try simp only [Act.put, List.setIfInBounds_toArray, List.set_cons_zero, List.set_cons_succ]
          refine restS_take (i := 15) S4.out rfl (by kernel_rfl) (by kernel_rfl) (by kernel_rfl) (by rfl) (fun v hv => by obtain ⟨s0, s1, s2⟩ := hv; go_simp; try with_reducible rfl) ?_
          try simp only [Act.put, List.setIfInBounds_toArray, List.set_cons_zero, List.set_cons_succ]
          refine restS_take (i := 16) S4.out rfl (by kernel_rfl) (by kernel_rfl) (by kernel_rfl) (by rfl) (fun v hv => by obtain ⟨s0, s1, s2⟩ := hv; go_simp; try with_reducible rfl) ?_
          try simp only [Act.put, List.setIfInBounds_toArray, List.set_cons_zero, List.set_cons_succ]
          refine restS_take (i := 17) S4.out rfl (by kernel_rfl) (by kernel_rfl) (by kernel_rfl) (by rfl) (fun v hv => by obtain ⟨s0, s1, s2⟩ := hv; go_simp; try with_reducible rfl) ?_
          try simp only [Act.put, List.setIfInBounds_toArray, List.set_cons_zero, List.set_cons_succ]
          refine restS_take (i := 18) S4.out rfl (by kernel_rfl) (by kernel_rfl) (by kernel_rfl) (by rfl) (fun v hv => by obtain ⟨s0, s1, s2⟩ := hv; go_simp; try with_reducible rfl) ?_
          try simp only [Act.put, List.setIfInBounds_toArray, List.set_cons_zero, List.set_cons_succ]
          refine restS_take (i := 19) S4.out rfl (by kernel_rfl) (by kernel_rfl) (by kernel_rfl) (by rfl) (fun v hv => by obtain ⟨s0, s1, s2⟩ := hv; go_simp; try with_reducible rfl) ?_
          try simp only [Act.put, List.setIfInBounds_toArray, List.set_cons_zero, List.set_cons_succ]
          refine restS_take (i := 20) S4.out rfl (by kernel_rfl) (by kernel_rfl) (by kernel_rfl) (by rfl) (fun v hv => by obtain ⟨s0, s1, s2⟩ := hv; go_simp; try with_reducible rfl) ?_
          try simp only [Act.put, List.setIfInBounds_toArray, List.set_cons_zero, List.set_cons_succ]
          refine restS_take (i := 21) S4.out rfl (by kernel_rfl) (by kernel_rfl) (by kernel_rfl) (by rfl) (fun v hv => by obtain ⟨s0, s1, s2⟩ := hv; go_simp; try with_reducible rfl) ?_
          try simp only [Act.put, List.setIfInBounds_toArray, List.set_cons_zero, List.set_cons_succ]
          refine restS_take (i := 22) S4.out rfl (by kernel_rfl) (by kernel_rfl) (by kernel_rfl) (by rfl) (fun v hv => by obtain ⟨s0, s1, s2⟩ := hv; go_simp; try with_reducible rfl) ?_
          try simp only [Act.put, List.setIfInBounds_toArray, List.set_cons_zero, List.set_cons_succ]
          refine restS_lone (i := 14) rfl (by kernel_rfl) (by rfl) (fun K hK => ?_)
          go_simp
          refine (HWt.out v4 G4.out).mono ?_
          rintro e v5 ⟨rfl, hg5⟩
          have G5 := Lib.hid (G4.out.trans hg5)
          have S5 := Lib.hid (SX.out v5 G5.out)
          have Z9 := Lib.hid (ZT.out.grow (pcKeeps KKC.out.kept (devKp KK.out) G H room l st1) (pcKeeps (rcKept w.heap.size) (rdKept w.heap.size) Q R room l st1) G5.out)
          clear hg5 G4 S4
          refine hK.out _ _ S5.out ?_
          clear hK K
          try simp only [Act.put, List.setIfInBounds_toArray, List.set_cons_zero, List.set_cons_succ]
          refine restS_take (i := 23) S5.out rfl (by kernel_rfl) (by kernel_rfl) (by kernel_rfl) (by rfl) (fun v hv => by obtain ⟨s0, s1, s2⟩ := hv; go_simp; try with_reducible rfl) ?_
          try simp only [Act.put, List.setIfInBounds_toArray, List.set_cons_zero, List.set_cons_succ]
          refine restS_take (i := 24) S5.out rfl (by kernel_rfl) (by kernel_rfl) (by kernel_rfl) (by rfl) (fun v hv => by obtain ⟨s0, s1, s2⟩ := hv; go_simp; try with_reducible rfl) ?_
          try simp only [Act.put, List.setIfInBounds_toArray, List.set_cons_zero, List.set_cons_succ]
          refine restS_take (i := 25) S5.out rfl (by kernel_rfl) (by kernel_rfl) (by kernel_rfl) (by rfl) (fun v hv => by obtain ⟨s0, s1, s2⟩ := hv; go_simp; try with_reducible rfl) ?_
          try simp only [Act.put, List.setIfInBounds_toArray, List.set_cons_zero, List.set_cons_succ]
          refine restS_take (i := 26) S5.out rfl (by kernel_rfl) (by kernel_rfl) (by kernel_rfl) (by rfl) (fun v hv => by obtain ⟨s0, s1, s2⟩ := hv; go_simp; try with_reducible rfl) ?_
          try simp only [Act.put, List.setIfInBounds_toArray, List.set_cons_zero, List.set_cons_succ]
          refine restS_take (i := 27) S5.out rfl (by kernel_rfl) (by kernel_rfl) (by kernel_rfl) (by rfl) (fun v hv => by obtain ⟨s0, s1, s2⟩ := hv; go_simp; try with_reducible rfl) ?_
          try simp only [Act.put, List.setIfInBounds_toArray, List.set_cons_zero, List.set_cons_succ]
          refine restS_take (i := 28) S5.out rfl (by kernel_rfl) (by kernel_rfl) (by kernel_rfl) (by rfl) (fun v hv => by obtain ⟨s0, s1, s2⟩ := hv; go_simp; try with_reducible rfl) ?_
          try simp only [Act.put, List.setIfInBounds_toArray, List.set_cons_zero, List.set_cons_succ]
          refine restS_take (i := 29) S5.out rfl (by kernel_rfl) (by kernel_rfl) (by kernel_rfl) (by rfl) (fun v hv => by obtain ⟨s0, s1, s2⟩ := hv; go_simp; try with_reducible rfl) ?_
          try simp only [Act.put, List.setIfInBounds_toArray, List.set_cons_zero, List.set_cons_succ]
          refine restS_take (i := 30) S5.out rfl (by kernel_rfl) (by kernel_rfl) (by kernel_rfl) (by rfl) (fun v hv => by obtain ⟨s0, s1, s2⟩ := hv; go_simp; try with_reducible rfl) ?_
          try simp only [Act.put, List.setIfInBounds_toArray, List.set_cons_zero, List.set_cons_succ]
          refine restS_take (i := 31) S5.out rfl (by kernel_rfl) (by kernel_rfl) (by kernel_rfl) (by rfl) (fun v hv => by obtain ⟨s0, s1, s2⟩ := hv; go_simp; try with_reducible rfl) ?_
          try simp only [Act.put, List.setIfInBounds_toArray, List.set_cons_zero, List.set_cons_succ]
          refine restS_take (i := 32) S5.out rfl (by kernel_rfl) (by kernel_rfl) (by kernel_rfl) (by rfl) (fun v hv => by obtain ⟨s0, s1, s2⟩ := hv; go_simp; try with_reducible rfl) ?_
          try simp only [Act.put, List.setIfInBounds_toArray, List.set_cons_zero, List.set_cons_succ]
          refine restS_take (i := 33) S5.out rfl (by kernel_rfl) (by kernel_rfl) (by kernel_rfl) (by rfl) (fun v hv => by obtain ⟨s0, s1, s2⟩ := hv; go_simp; try with_reducible rfl) ?_
          try simp only [Act.put, List.setIfInBounds_toArray, List.set_cons_zero, List.set_cons_succ]
          refine restS_done (by kernel_rfl) ?_
          clear S0 S5 SX HWt
          go_wp2
          exact ⟨⟨i + 1, FP, FR, l, st1, by first | rfl | simp | go_num, by omega, HN1.out, Z9.out⟩, by simp [intOf]; omega⟩
      · as_aux_lemma =>
          have ZA := Lib.hid (HZ.out.grow (pcKeeps KKC.out.kept (devKp KK.out) G H room l dv) (pcKeeps (rcKept w.heap.size) (rdKept w.heap.size) Q R room l dv) (alloc_below wr (acO k at_ nn Ab nb cb Ak nk ck)))
          have BA := Lib.hid (show Bs (wr.alloc (acO k at_ nn Ab nb cb Ak nk ck)) F F2 wr.heap.size (acO k at_ nn Ab nb cb Ak nk ck) from bsNew HZ.out _)
          clear HZ
          go_wp2_with fail
          obtain ⟨a, ha⟩ : ∃ a, a = wr.heap.size := ⟨_, rfl⟩
          rw [← ha] at BA ⊢
          clear ha d0 d1 d2 d3 d4
          generalize wr.alloc _ = va at ZA BA ⊢
          obtain ⟨st1, hst1⟩ : ∃ st1, st1 = dv := ⟨_, rfl⟩
          obtain ⟨l1, hl1⟩ : ∃ l1 : Ka, l1 = l := ⟨_, rfl⟩
          have HN1 := Lib.hid (show KNum 6 room l1 st1 (i + 1) by rw [hl1, hst1]; exact HN.out.up (by omega))
          have ZZ := Lib.hid (show Sd (Pc D C G H room l1 st1) (Pc (RD w.heap.size) (RC w.heap.size) Q R room l1 st1) w va F F2 by rw [hl1, hst1]; exact ZA.out)
          clear ZA BA hst1 hl1
          generalize va = vz at ZZ ⊢
          generalize hvd : vz.drew = vd
          have ZT := Lib.hid (show Sd (Pc D C G H room l1 st1) (Pc (RD w.heap.size) (RC w.heap.size) Q R room l1 st1) w vd F F2 by rw [← hvd]; exact ZZ.out.grow (pcKeeps KKC.out.kept (devKp KK.out) G H room l1 st1) (pcKeeps (rcKept w.heap.size) (rdKept w.heap.size) Q R room l1 st1) ((Below.refl _ vz).drew))
          obtain ⟨Ax, cx, Ay, cy, q0, q2, qz, qc, q1, _, _, hQl, hRl⟩ := qCells ZT.out.q
          obtain ⟨lk, hlk⟩ : ∃ lk, lk = l1.length := ⟨_, rfl⟩
          obtain ⟨pc, hpc⟩ : ∃ pc, pc = st1.pend.length := ⟨_, rfl⟩
          have HKt := Lib.hid (KKC.out.keeps vd G H F room l1 st1 ZT.out.p (by rw [HN1.out.len]; exact HN1.out.ko) (by rw [HN1.out.len]; omega))
          have HWt := Lib.hid (fun (v : World) (hv : Grown vd v) => show Calls Try.prog 28 #[.pointer (some ⟨H, 0, none⟩)] v fun e w' => e = .returned (.int .i64 (st1.pend.length : Int)) ∧ Grown v w' by
            obtain ⟨Fc, Fd, hc, hd, ha, hF⟩ := (ZT.out.grow (pcKeeps KKC.out.kept (devKp KK.out) G H room l1 st1) (pcKeeps (rcKept w.heap.size) (rdKept w.heap.size) Q R room l1 st1) hv).p
            exact KK.out.waits v H Fd st1 (i + 1) hd HN1.out.ok (by omega))
          have HKl := Lib.hid (show (keys l1).length = lk by rw [keys_len, hlk])
          have HK6 := Lib.hid (show lk ≤ 6 by rw [hlk]; exact HN1.out.ko.few)
          have hlr : ¬ (lk : Int) > (room : Int) := by have := HN1.out.ko.room; omega
          have QZ := Lib.hid qz
          rw [← hlk] at q2 HKt
          rw [← hpc] at q1 qc HWt
          have SX := Lib.hid (show ∀ v : World, Grown vd v → v.cell? ⟨Q, 0, none⟩ = some (.pointer (some ⟨R, 0, none⟩)) ∧ v.cell? ⟨Q, 2, none⟩ = some (.slice Ax lk cx) ∧ v.cell? ⟨R, 1, none⟩ = some (.slice Ay pc cy) from fun v hv => ⟨(hv.cell (p := ⟨Q, 0, none⟩) hQl).trans q0, (hv.cell (p := ⟨Q, 2, none⟩) hQl).trans q2, (hv.cell (p := ⟨R, 1, none⟩) hRl).trans q1⟩)
          have S0 := Lib.hid (SX.out vd (Grown.refl _))
          clear hlk hpc q0 q1 q2 qz hQl hRl ZZ
          refine restS_begin (fun v : World => v.cell? ⟨Q, 0, none⟩ = some (.pointer (some ⟨R, 0, none⟩)) ∧ v.cell? ⟨Q, 2, none⟩ = some (.slice Ax lk cx) ∧ v.cell? ⟨R, 1, none⟩ = some (.slice Ay pc cy)) (by kernel_rfl) ?_
          rw [hvd]
          clear hvd
          refine restS_take (i := 0) S0.out rfl (by kernel_rfl) (by kernel_rfl) (by kernel_rfl) (by rfl) (fun v hv => by obtain ⟨s0, s1, s2⟩ := hv; go_simp; try with_reducible rfl) ?_
          try simp only [Act.put, List.setIfInBounds_toArray, List.set_cons_zero, List.set_cons_succ]
          refine restS_take (i := 1) S0.out rfl (by kernel_rfl) (by kernel_rfl) (by kernel_rfl) (by rfl) (fun v hv => by obtain ⟨s0, s1, s2⟩ := hv; go_simp; try with_reducible rfl) ?_
          try simp only [Act.put, List.setIfInBounds_toArray, List.set_cons_zero, List.set_cons_succ]
          refine restS_take (i := 2) S0.out rfl (by kernel_rfl) (by kernel_rfl) (by kernel_rfl) (by rfl) (fun v hv => by obtain ⟨s0, s1, s2⟩ := hv; go_simp; try with_reducible rfl) ?_
          try simp only [Act.put, List.setIfInBounds_toArray, List.set_cons_zero, List.set_cons_succ]
          refine restS_take (i := 3) S0.out rfl (by kernel_rfl) (by kernel_rfl) (by kernel_rfl) (by rfl) (fun v hv => by obtain ⟨s0, s1, s2⟩ := hv; go_simp; try with_reducible rfl) ?_
          try simp only [Act.put, List.setIfInBounds_toArray, List.set_cons_zero, List.set_cons_succ]
          refine restS_take (i := 5) S0.out rfl (by kernel_rfl) (by kernel_rfl) (by kernel_rfl) (by rfl) (fun v hv => by obtain ⟨s0, s1, s2⟩ := hv; go_simp; try with_reducible rfl) ?_
          try simp only [Act.put, List.setIfInBounds_toArray, List.set_cons_zero, List.set_cons_succ]
          refine restS_take (i := 6) S0.out rfl (by kernel_rfl) (by kernel_rfl) (by kernel_rfl) (by rfl) (fun v hv => by obtain ⟨s0, s1, s2⟩ := hv; go_simp; try with_reducible rfl) ?_
          try simp only [Act.put, List.setIfInBounds_toArray, List.set_cons_zero, List.set_cons_succ]
          refine restS_take (i := 7) S0.out rfl (by kernel_rfl) (by kernel_rfl) (by kernel_rfl) (by rfl) (fun v hv => by obtain ⟨s0, s1, s2⟩ := hv; go_simp; try with_reducible rfl) ?_
          try simp only [Act.put, List.setIfInBounds_toArray, List.set_cons_zero, List.set_cons_succ]
          refine restS_take (i := 8) S0.out rfl (by kernel_rfl) (by kernel_rfl) (by kernel_rfl) (by rfl) (fun v hv => by obtain ⟨s0, s1, s2⟩ := hv; go_simp; try with_reducible rfl) ?_
          try simp only [Act.put, List.setIfInBounds_toArray, List.set_cons_zero, List.set_cons_succ]
          refine restS_lone (i := 4) rfl (by kernel_rfl) (by rfl) (fun K hK => ?_)
          go_simp
          refine (HKt.out).mono ?_
          rintro e v3 ⟨A5, m5, c5, rfl, hm5, hc5, hr5, hg5⟩
          obtain rfl := hm5
          have G3 := Lib.hid hg5
          have S3 := Lib.hid (SX.out v3 hg5)
          have R5 := Lib.hid hr5
          have Q5 := Lib.hid (QZ.out.grow hg5)
          clear hg5 hr5 HKt QZ
          refine hK.out _ _ S3.out ?_
          clear hK K
          try simp only [Act.put, List.setIfInBounds_toArray, List.set_cons_zero, List.set_cons_succ]
          refine restS_lone (i := 9) rfl (by kernel_rfl) (by rfl) (fun K hK => ?_)
          go_simp
          refine (S15.refInts_any (l := keys l1) (l2 := keys l1) (c := c5) (c2 := cx) (n := lk) (n2 := lk) (show S15.RdZ _ _ A5 (keys l1) from R5.out) HKl.out (by have := HK6.out; omega) Q5.out HKl.out (by have := HK6.out; omega)).mono ?_
          rintro e v4 ⟨rfl, hg4⟩
          rw [show decide (keys l1 = keys l1) = true from decide_eq_true rfl]
          have G4 := Lib.hid (G3.out.trans hg4)
          have S4 := Lib.hid (SX.out v4 G4.out)
          clear hg4 R5 Q5 G3 S3
          refine hK.out _ _ S4.out ?_
          clear hK K
          try simp only [Act.put, List.setIfInBounds_toArray, List.set_cons_zero, List.set_cons_succ]
          refine restS_take (i := 10) S4.out rfl (by kernel_rfl) (by kernel_rfl) (by kernel_rfl) (by rfl) (fun v hv => by obtain ⟨s0, s1, s2⟩ := hv; go_simp; try with_reducible rfl) ?_
          try simp only [Act.put, List.setIfInBounds_toArray, List.set_cons_zero, List.set_cons_succ]
          refine restS_take (i := 11) S4.out rfl (by kernel_rfl) (by kernel_rfl) (by kernel_rfl) (by rfl) (fun v hv => by obtain ⟨s0, s1, s2⟩ := hv; go_simp; try with_reducible rfl) ?_
          try simp only [Act.put, List.setIfInBounds_toArray, List.set_cons_zero, List.set_cons_succ]
          refine restS_take (i := 12) S4.out rfl (by kernel_rfl) (by kernel_rfl) (by kernel_rfl) (by rfl) (fun v hv => by obtain ⟨s0, s1, s2⟩ := hv; go_simp; try with_reducible rfl) ?_
          try simp only [Act.put, List.setIfInBounds_toArray, List.set_cons_zero, List.set_cons_succ]
          refine restS_take (i := 13) S4.out rfl (by kernel_rfl) (by kernel_rfl) (by kernel_rfl) (by rfl) (fun v hv => by obtain ⟨s0, s1, s2⟩ := hv; go_simp; try with_reducible rfl) ?_
          try simp only [Act.put, List.setIfInBounds_toArray, List.set_cons_zero, List.set_cons_succ]
          refine restS_take (i := 15) S4.out rfl (by kernel_rfl) (by kernel_rfl) (by kernel_rfl) (by rfl) (fun v hv => by obtain ⟨s0, s1, s2⟩ := hv; go_simp; try with_reducible rfl) ?_
          try simp only [Act.put, List.setIfInBounds_toArray, List.set_cons_zero, List.set_cons_succ]
          refine restS_take (i := 16) S4.out rfl (by kernel_rfl) (by kernel_rfl) (by kernel_rfl) (by rfl) (fun v hv => by obtain ⟨s0, s1, s2⟩ := hv; go_simp; try with_reducible rfl) ?_
          try simp only [Act.put, List.setIfInBounds_toArray, List.set_cons_zero, List.set_cons_succ]
          refine restS_take (i := 17) S4.out rfl (by kernel_rfl) (by kernel_rfl) (by kernel_rfl) (by rfl) (fun v hv => by obtain ⟨s0, s1, s2⟩ := hv; go_simp; try with_reducible rfl) ?_
          try simp only [Act.put, List.setIfInBounds_toArray, List.set_cons_zero, List.set_cons_succ]
          refine restS_take (i := 18) S4.out rfl (by kernel_rfl) (by kernel_rfl) (by kernel_rfl) (by rfl) (fun v hv => by obtain ⟨s0, s1, s2⟩ := hv; go_simp; try with_reducible rfl) ?_
          try simp only [Act.put, List.setIfInBounds_toArray, List.set_cons_zero, List.set_cons_succ]
          refine restS_take (i := 19) S4.out rfl (by kernel_rfl) (by kernel_rfl) (by kernel_rfl) (by rfl) (fun v hv => by obtain ⟨s0, s1, s2⟩ := hv; go_simp; try with_reducible rfl) ?_
          try simp only [Act.put, List.setIfInBounds_toArray, List.set_cons_zero, List.set_cons_succ]
          refine restS_take (i := 20) S4.out rfl (by kernel_rfl) (by kernel_rfl) (by kernel_rfl) (by rfl) (fun v hv => by obtain ⟨s0, s1, s2⟩ := hv; go_simp; try with_reducible rfl) ?_
          try simp only [Act.put, List.setIfInBounds_toArray, List.set_cons_zero, List.set_cons_succ]
          refine restS_take (i := 21) S4.out rfl (by kernel_rfl) (by kernel_rfl) (by kernel_rfl) (by rfl) (fun v hv => by obtain ⟨s0, s1, s2⟩ := hv; go_simp; try with_reducible rfl) ?_
          try simp only [Act.put, List.setIfInBounds_toArray, List.set_cons_zero, List.set_cons_succ]
          refine restS_take (i := 22) S4.out rfl (by kernel_rfl) (by kernel_rfl) (by kernel_rfl) (by rfl) (fun v hv => by obtain ⟨s0, s1, s2⟩ := hv; go_simp; try with_reducible rfl) ?_
          try simp only [Act.put, List.setIfInBounds_toArray, List.set_cons_zero, List.set_cons_succ]
          refine restS_lone (i := 14) rfl (by kernel_rfl) (by rfl) (fun K hK => ?_)
          go_simp
          refine (HWt.out v4 G4.out).mono ?_
          rintro e v5 ⟨rfl, hg5⟩
          have G5 := Lib.hid (G4.out.trans hg5)
          have S5 := Lib.hid (SX.out v5 G5.out)
          have Z9 := Lib.hid (ZT.out.grow (pcKeeps KKC.out.kept (devKp KK.out) G H room l1 st1) (pcKeeps (rcKept w.heap.size) (rdKept w.heap.size) Q R room l1 st1) G5.out)
          clear hg5 G4 S4
          refine hK.out _ _ S5.out ?_
          clear hK K
          try simp only [Act.put, List.setIfInBounds_toArray, List.set_cons_zero, List.set_cons_succ]
          refine restS_take (i := 23) S5.out rfl (by kernel_rfl) (by kernel_rfl) (by kernel_rfl) (by rfl) (fun v hv => by obtain ⟨s0, s1, s2⟩ := hv; go_simp; try with_reducible rfl) ?_
          try simp only [Act.put, List.setIfInBounds_toArray, List.set_cons_zero, List.set_cons_succ]
          refine restS_take (i := 24) S5.out rfl (by kernel_rfl) (by kernel_rfl) (by kernel_rfl) (by rfl) (fun v hv => by obtain ⟨s0, s1, s2⟩ := hv; go_simp; try with_reducible rfl) ?_
          try simp only [Act.put, List.setIfInBounds_toArray, List.set_cons_zero, List.set_cons_succ]
          refine restS_take (i := 25) S5.out rfl (by kernel_rfl) (by kernel_rfl) (by kernel_rfl) (by rfl) (fun v hv => by obtain ⟨s0, s1, s2⟩ := hv; go_simp; try with_reducible rfl) ?_
          try simp only [Act.put, List.setIfInBounds_toArray, List.set_cons_zero, List.set_cons_succ]
          refine restS_take (i := 26) S5.out rfl (by kernel_rfl) (by kernel_rfl) (by kernel_rfl) (by rfl) (fun v hv => by obtain ⟨s0, s1, s2⟩ := hv; go_simp; try with_reducible rfl) ?_
          try simp only [Act.put, List.setIfInBounds_toArray, List.set_cons_zero, List.set_cons_succ]
          refine restS_take (i := 27) S5.out rfl (by kernel_rfl) (by kernel_rfl) (by kernel_rfl) (by rfl) (fun v hv => by obtain ⟨s0, s1, s2⟩ := hv; go_simp; try with_reducible rfl) ?_
          try simp only [Act.put, List.setIfInBounds_toArray, List.set_cons_zero, List.set_cons_succ]
          refine restS_take (i := 28) S5.out rfl (by kernel_rfl) (by kernel_rfl) (by kernel_rfl) (by rfl) (fun v hv => by obtain ⟨s0, s1, s2⟩ := hv; go_simp; try with_reducible rfl) ?_
          try simp only [Act.put, List.setIfInBounds_toArray, List.set_cons_zero, List.set_cons_succ]
          refine restS_take (i := 29) S5.out rfl (by kernel_rfl) (by kernel_rfl) (by kernel_rfl) (by rfl) (fun v hv => by obtain ⟨s0, s1, s2⟩ := hv; go_simp; try with_reducible rfl) ?_
          try simp only [Act.put, List.setIfInBounds_toArray, List.set_cons_zero, List.set_cons_succ]
          refine restS_take (i := 30) S5.out rfl (by kernel_rfl) (by kernel_rfl) (by kernel_rfl) (by rfl) (fun v hv => by obtain ⟨s0, s1, s2⟩ := hv; go_simp; try with_reducible rfl) ?_
          try simp only [Act.put, List.setIfInBounds_toArray, List.set_cons_zero, List.set_cons_succ]
          refine restS_take (i := 31) S5.out rfl (by kernel_rfl) (by kernel_rfl) (by kernel_rfl) (by rfl) (fun v hv => by obtain ⟨s0, s1, s2⟩ := hv; go_simp; try with_reducible rfl) ?_
          try simp only [Act.put, List.setIfInBounds_toArray, List.set_cons_zero, List.set_cons_succ]
          refine restS_take (i := 32) S5.out rfl (by kernel_rfl) (by kernel_rfl) (by kernel_rfl) (by rfl) (fun v hv => by obtain ⟨s0, s1, s2⟩ := hv; go_simp; try with_reducible rfl) ?_
          try simp only [Act.put, List.setIfInBounds_toArray, List.set_cons_zero, List.set_cons_succ]
          refine restS_take (i := 33) S5.out rfl (by kernel_rfl) (by kernel_rfl) (by kernel_rfl) (by rfl) (fun v hv => by obtain ⟨s0, s1, s2⟩ := hv; go_simp; try with_reducible rfl) ?_
          try simp only [Act.put, List.setIfInBounds_toArray, List.set_cons_zero, List.set_cons_succ]
          refine restS_done (by kernel_rfl) ?_
          clear S0 S5 SX HWt
          go_wp2
          exact ⟨⟨i + 1, F, F2, l1, st1, by first | rfl | simp | go_num, by omega, HN1.out, Z9.out⟩, by simp [intOf]; omega⟩
    · have bi : ¬ (i : Int) < (m : Int) := by omega
      go_wp2_with fail
      refine (KKC.out.newNil wr (room : Int) (by omega) (by omega)).mono ?_
      rintro e w9 ⟨rfl, hg9⟩
      have G9 := Lib.hid (Grown.trans HZ.out.gr hg9)
      clear hg9
      go_wp2
      go_ret
      exact ⟨rfl, G9.out⟩
end
end Go.Proofs.Ythakdjaaknbmpaa.S14
