/-
  CacheSame's walk, out of what is asked of the program. What CacheActs asks of a cache and its device together: the device's own calls, the reference's cache cleared.
-/
import Derived.Test.YthakdjaaknbmpaaMgKactsMain37
namespace Go.Proofs.Ythakdjaaknbmpaa.S14
open S13
open Cf
open Go.RowKit
set_option linter.unusedVariables false
set_option linter.unusedSimpArgs false

abbrev acO (k at_ n : Int) (Ab : Option Addr) (nb cb : Nat) (Ak : Option Addr) (nk ck : Nat) : Obj := .cells #[.int .i64 k, .int .i64 at_, .int .i64 n, .slice Ab nb cb, .slice Ak nk ck] 40 (0, 0)
/-- The act's block, cell by cell. -/
def SA (a : Nat) (k at_ n : Int) (Ab : Option Addr) (nb cb : Nat) (Ak : Option Addr) (nk ck : Nat) (v : World) : Prop :=
  v.cell? ⟨a, 0, none⟩ = some (.int .i64 k) ∧ v.cell? ⟨a, 1, none⟩ = some (.int .i64 at_) ∧ v.cell? ⟨a, 2, none⟩ = some (.int .i64 n) ∧ v.cell? ⟨a, 3, none⟩ = some (.slice Ab nb cb) ∧ v.cell? ⟨a, 4, none⟩ = some (.slice Ak nk ck)
theorem sa_of {a : Nat} {k at_ n : Int} {Ab : Option Addr} {nb cb : Nat} {Ak : Option Addr} {nk ck : Nat} {v : World} {F F2 : Nat → Prop} (h : Bs v F F2 a (acO k at_ n Ab nb cb Ak nk ck)) : SA a k at_ n Ab nb cb Ak nk ck v :=
  ⟨cell_of_row v a 0 _ _ _ h.1, cell_of_row v a 1 _ _ _ h.1, cell_of_row v a 2 _ _ _ h.1, cell_of_row v a 3 _ _ _ h.1, cell_of_row v a 4 _ _ _ h.1⟩
theorem beq_same (S : ByteArray) : (S == S) = true := by
  show (S.data == S.data) = true
  simp
theorem bne_self (S : ByteArray) : (S != S) = false := by
  unfold bne
  rw [beq_same]
  rfl
section
variable {D : DTab} {C : CTab}
set_option maxRecDepth 20000 in
set_option maxHeartbeats 16000000 in
set_option maxRecDepth 20000 in
theorem same_walk (K : DevOk D) (KC : CacheOk D C) (r : Int) (hr0 : -9223372036854775808 ≤ r) (hr1 : r < 9223372036854775808) (DA : Option Addr) (m dc : Nat) (acts : List Ad) (w : World) (hD : RdAd w w.heap.size DA acts) (hm : acts.length = m) (hmc : m ≤ dc) :
    Calls Try.prog 4 #[.int .i64 r, .slice DA m dc] w fun e w' => e = .returned (.bool true) ∧ Below w.heap.size w w' := by
  have KK := Lib.hid K
  have KKC := Lib.hid KC
  have HD := Lib.hid hD
  have HM := Lib.hid hm
  clear K KC hD hm
  go_enter Try.func4, Try.ntmps4
  go_wp2_with fail
  refine (awakeC KK.out KKC.out w).mono ?_
  rintro e w0 ⟨rfl, hg0⟩
  have G0 := Lib.hid hg0
  clear hg0
  by_cases hbad : 40 < m ∨ r < 0
  · by_cases h1 : 40 < m
    · have b1 : (m : Int) > 40 := by omega
      clear hbad
      go_wp2_with fail
      refine (awakeC KK.out KKC.out w0).mono ?_
      rintro e wz ⟨rfl, hgz⟩
      have GZ := Lib.hid (Grown.trans G0.out hgz)
      clear hgz
      go_wp2
      go_ret
      exact ⟨rfl, GZ.out⟩
    · have b1 : ¬ (m : Int) > 40 := by omega
      have b2 : r < 0 := by omega
      clear hbad
      go_wp2_with fail
      refine (awakeC KK.out KKC.out w0).mono ?_
      rintro e wz ⟨rfl, hgz⟩
      have GZ := Lib.hid (Grown.trans G0.out hgz)
      clear hgz
      go_wp2
      go_ret
      exact ⟨rfl, GZ.out⟩
  have b1 : ¬ (m : Int) > 40 := by omega
  have b2 : ¬ r < 0 := by omega
  have hm40 : m ≤ 40 := by omega
  obtain ⟨room, rfl⟩ : ∃ room : Nat, r = (room : Int) := ⟨r.toNat, by omega⟩
  have hroom : room < 9223372036854775808 := by omega
  clear hbad hr0 hr1
  go_wp2_with fail
  refine (KK.out.new w0 6 (by omega) (by omega)).mono ?_
  rintro e w1 ⟨H, FD, rfl, hd, hF, hg⟩
  have Z1 := Lib.hid (show DSince D w w1 H FD (dvNew 6) from ⟨hd, fun k hk => Nat.le_trans G0.out.size (hF k hk), Grown.trans G0.out hg⟩)
  clear hd hF hg G0
  go_wp2_with fail
  refine (KK.out.new w1 6 (by omega) (by omega)).mono ?_
  rintro e w2 ⟨X, FX, rfl, hd, hF, hg⟩
  have Z2 := Lib.hid (Z1.out.grow KK.out hg)
  have X2 := Lib.hid (show D w2 X FX (dvNew 6) from hd)
  have X2F := Lib.hid (show ∀ k, FX k → w1.heap.size ≤ k ∧ k < w2.heap.size from fun k hk => ⟨hF k hk, KK.out.foot _ _ _ _ hd k hk⟩)
  clear hd hF hg
  go_wp2_with fail
  refine (KKC.out.new w2 H FD (dvNew 6) room Z2.out.1 hroom).mono ?_
  rintro e w3 ⟨G, FC, rfl, hcc, hF, hg⟩
  have Z3 := Lib.hid (show ∃ F, Sd (Pc D C G H room [] (dvNew 6)) (Pd D X (dvNew 6)) w w3 F FX by
    have hcs := CSince.make KKC.out.kept (devKp KK.out) Z2.out hcc hF hg
    refine ⟨_, hcs.1, KK.out.keep _ _ _ _ _ X2.out (fun k hk => hg.block k (X2F.out k hk).2) hg.size, fun k hk => ⟨hcs.2.1 k hk, hcs.1.foot KKC.out.kept (devKp KK.out) k hk⟩, fun k hk => ⟨Nat.le_trans Z1.out.2.2.size (X2F.out k hk).1, Nat.lt_of_lt_of_le (X2F.out k hk).2 hg.size⟩, ?_, hcs.2.2⟩
    rintro k (hk | hk) hx
    · have := hF k hk; have := (X2F.out k hx).2; omega
    · have := KK.out.foot _ _ _ _ Z1.out.1 k hk; have := (X2F.out k hx).1; omega)
  obtain ⟨F, hz⟩ := Z3.out
  have ZS := Lib.hid hz
  clear hcc hF hg Z1 Z2 X2 X2F Z3 hz
  go_wp2_with fail
  go_loopw [11] (fun v11 wr => ∃ (i : Nat) (F F2 : Nat → Prop) (l : Ka) (dv : Dv), v11 = .int .i64 (i : Int) ∧ i ≤ m ∧ Hid (KNum 6 room l dv i) ∧ Hid (dv.calls = -1) ∧ Hid (Coh l dv) ∧ Hid (Sd (Pc D C G H room l dv) (Pd D X dv) w wr F F2)) (fun v11 _ => m - (intOf v11).toNat)
  case atStart => exact ⟨0, F, FX, [], dvNew 6, rfl, Nat.zero_le _, knum_new 6 room, rfl, (fun p hp => by simp at hp), ZS.out⟩
  case round =>
    clear ZS F FX
    obtain ⟨i, F, F2, l, dv, rfl, hi, HN, HCl, HCo, HZ⟩ := hrel
    by_cases hlt : i < m
    · have him : i < acts.length := by rw [HM.out]; exact hlt
      have bi : (i : Int) < (m : Int) := by omega
      obtain ⟨b, off, hDe, hbl, hall⟩ : ∃ b off, DA = some ⟨b, off, none⟩ ∧ b < w.heap.size ∧ _ := by
        rcases HD.out with h0 | ⟨b, off, h1, h2, h3⟩
        · rw [h0] at him; simp at him
        · exact ⟨b, off, h1, h2, h3 i him⟩
      obtain ⟨Ab, nb, cb, Ak, nk, ck, d0, d1, d2, d3, d4, hb1, hb2, hb3, hk1, hk2, hk3, hn1, hn2⟩ := hall
      obtain ⟨ac, hac⟩ : ∃ ac, ac = acts[i] := ⟨_, rfl⟩
      rw [← hac] at d0 d1 d2 hb1 hb3 hk1 hk3 hn1 hn2
      obtain ⟨k, at_, nn, bb, kp⟩ := ac
      simp only at d0 d1 d2 hb1 hb3 hk1 hk3 hn1 hn2
      clear hac him
      obtain ⟨oc, hoc⟩ : ∃ oc, oc = off + i * 5 := ⟨_, rfl⟩
      have cg : ∀ j, wr.cell? ⟨b, j, none⟩ = w.cell? ⟨b, j, none⟩ := fun j => HZ.out.gr.cell (p := ⟨b, j, none⟩) hbl
      rw [← cg] at d0 d1 d2 d3 d4
      have HB1 := Lib.hid hb1
      have HB3 := Lib.hid hb3
      subst hDe
      clear cg hb1 hb3 hk1 hk3 hoc
      have hg1 := pcKeeps KKC.out.kept (devKp KK.out) G H room l dv
      have hg2 := pdKeeps (devKp KK.out) X dv
      have ZA := Lib.hid (HZ.out.grow hg1 hg2 (alloc_below wr (acO k at_ nn Ab nb cb Ak nk ck)))
      have BA := Lib.hid (show Bs (wr.alloc (acO k at_ nn Ab nb cb Ak nk ck)) F F2 wr.heap.size (acO k at_ nn Ab nb cb Ak nk ck) from bsNew HZ.out _)
      clear HZ hg1 hg2
      by_cases t1 : (nb : Int) > 600
      · go_wp2
        go_ret
        exact ⟨rfl, ZA.out.gr⟩
      have hnb : nb ≤ 600 := by omega
      by_cases hev : Int.tmod k 2 = 0
      · obtain ⟨er, her⟩ : ∃ er, er = (dvWrite dv at_ bb).1 := ⟨_, rfl⟩
        obtain ⟨st1, hst1⟩ : ∃ st1, st1 = (dvWrite dv at_ bb).2 := ⟨_, rfl⟩
        obtain ⟨l1, hl1⟩ : ∃ l1, l1 = (kaWrite room l dv at_ bb).2.1 := ⟨_, rfl⟩
        have hws := write_same (room := room) HCl.out HCo.out at_ bb
        have HN1 := Lib.hid (show KNum 6 room l1 st1 (i + 1) by have := HN.out.write at_ bb; rw [hws.2.1, ← hl1, ← hst1] at this; exact this)
        have HCl1 := Lib.hid (show st1.calls = -1 by rw [hst1]; exact hws.2.2.2)
        have HCo1 := Lib.hid (show Coh l1 st1 by rw [hl1, hst1]; exact hws.2.2.1)
        have HP := Lib.hid (fun (v : World) (hv : Sd (Pc D C G H room l dv) (Pd D X dv) w v F F2) => KKC.out.write v G H F room l dv i at_ Ab nb cb bb hv.p (by rw [HN.out.len]; exact HN.out.ko) HN.out.ok (by omega) (by rw [HN.out.len]; omega) hroom (HB3.out.grow hv.gr) HB1.out hb2 (by omega) (fun x hx hne hf => by have h1 := rd_lt13 HB3.out hne x hx; have h2 := (hv.pf _ hf).1; omega))
        have HR := Lib.hid (fun (v : World) (FP : Nat → Prop) (hv : Sd (Pc D C G H room l1 st1) (Pd D X dv) w v FP F2) => KK.out.write v X F2 dv i at_ Ab nb cb bb hv.q HN.out.ok (by omega) (by rw [HN.out.len]; omega) (HB3.out.grow hv.gr) HB1.out hb2 (by omega) (fun x hx hne hf => by have h1 := rd_lt13 HB3.out hne x hx; have h2 := (hv.qf _ hf).1; omega))
        rw [hws.1, hws.2.1, ← her, ← hst1, ← hl1] at HP
        rw [← her, ← hst1] at HR
        have hne : (er != er) = false := by simp
        clear her hst1 hl1 hws
        go_wp2_with fail
        obtain ⟨a, ha⟩ : ∃ a, a = wr.heap.size := ⟨_, rfl⟩
        rw [← ha] at BA ⊢
        clear ha d0 d1 d2 d3 d4
        generalize wr.alloc _ = va at ZA BA ⊢
        generalize hvd : va.drew = vd
        have ZD := Lib.hid (show Sd (Pc D C G H room l dv) (Pd D X dv) w vd F F2 by rw [← hvd]; exact ZA.out.grow (pcKeeps KKC.out.kept (devKp KK.out) G H room l dv) (pdKeeps (devKp KK.out) X dv) ((Below.refl _ va).drew))
        have BD := Lib.hid (show Bs vd F F2 a (acO k at_ nn Ab nb cb Ak nk ck) by rw [← hvd]; exact BA.out.grow ((Below.refl _ va).drew))
        clear ZA BA
        refine restS_begin (SA a k at_ nn Ab nb cb Ak nk ck) (by kernel_rfl) ?_
        rw [hvd]
        clear hvd
        refine restS_take (i := 0) (sa_of BD.out) rfl (by kernel_rfl) (by kernel_rfl) (by kernel_rfl) (by rfl) (fun v hv => by obtain ⟨s0, s1, s2, s3, s4⟩ := hv; go_simp; try with_reducible rfl) ?_
        try simp only [Act.put, List.setIfInBounds_toArray, List.set_cons_zero, List.set_cons_succ]
        refine restS_take (i := 1) (sa_of BD.out) rfl (by kernel_rfl) (by kernel_rfl) (by kernel_rfl) (by rfl) (fun v hv => by obtain ⟨s0, s1, s2, s3, s4⟩ := hv; go_simp; try with_reducible rfl) ?_
        try simp only [Act.put, List.setIfInBounds_toArray, List.set_cons_zero, List.set_cons_succ]
        refine restS_take (i := 2) (sa_of BD.out) rfl (by kernel_rfl) (by kernel_rfl) (by kernel_rfl) (by rfl) (fun v hv => by obtain ⟨s0, s1, s2, s3, s4⟩ := hv; go_simp; try with_reducible rfl) ?_
        try simp only [Act.put, List.setIfInBounds_toArray, List.set_cons_zero, List.set_cons_succ]
        refine restS_take (i := 3) (sa_of BD.out) rfl (by kernel_rfl) (by kernel_rfl) (by kernel_rfl) (by rfl) (fun v hv => by obtain ⟨s0, s1, s2, s3, s4⟩ := hv; go_simp; try with_reducible rfl) ?_
        try simp only [Act.put, List.setIfInBounds_toArray, List.set_cons_zero, List.set_cons_succ]
        refine restS_take (i := 4) (sa_of BD.out) rfl (by kernel_rfl) (by kernel_rfl) (by kernel_rfl) (by rfl) (fun v hv => by obtain ⟨s0, s1, s2, s3, s4⟩ := hv; go_simp; try with_reducible rfl) ?_
        try simp only [Act.put, List.setIfInBounds_toArray, List.set_cons_zero, List.set_cons_succ]
        refine restS_take (i := 6) (sa_of BD.out) rfl (by kernel_rfl) (by kernel_rfl) (by kernel_rfl) (by rfl) (fun v hv => by obtain ⟨s0, s1, s2, s3, s4⟩ := hv; go_simp; try with_reducible rfl) ?_
        try simp only [Act.put, List.setIfInBounds_toArray, List.set_cons_zero, List.set_cons_succ]
        refine restS_take (i := 7) (sa_of BD.out) rfl (by kernel_rfl) (by kernel_rfl) (by kernel_rfl) (by rfl) (fun v hv => by obtain ⟨s0, s1, s2, s3, s4⟩ := hv; go_simp; try with_reducible rfl) ?_
        try simp only [Act.put, List.setIfInBounds_toArray, List.set_cons_zero, List.set_cons_succ]
        refine restS_take (i := 8) (sa_of BD.out) rfl (by kernel_rfl) (by kernel_rfl) (by kernel_rfl) (by rfl) (fun v hv => by obtain ⟨s0, s1, s2, s3, s4⟩ := hv; go_simp; try with_reducible rfl) ?_
        try simp only [Act.put, List.setIfInBounds_toArray, List.set_cons_zero, List.set_cons_succ]
        refine restS_take (i := 9) (sa_of BD.out) rfl (by kernel_rfl) (by kernel_rfl) (by kernel_rfl) (by rfl) (fun v hv => by obtain ⟨s0, s1, s2, s3, s4⟩ := hv; go_simp; try with_reducible rfl) ?_
        try simp only [Act.put, List.setIfInBounds_toArray, List.set_cons_zero, List.set_cons_succ]
        refine restS_take (i := 10) (sa_of BD.out) rfl (by kernel_rfl) (by kernel_rfl) (by kernel_rfl) (by rfl) (fun v hv => by obtain ⟨s0, s1, s2, s3, s4⟩ := hv; go_simp; try with_reducible rfl) ?_
        try simp only [Act.put, List.setIfInBounds_toArray, List.set_cons_zero, List.set_cons_succ]
        refine restS_lone (i := 5) rfl (by kernel_rfl) (by rfl) (fun K hK => ?_)
        go_simp
        refine (HP.out vd ZD.out).mono ?_
        rintro e v1 ⟨rfl, FP, hcd, hb, hc⟩
        have hs1 := ZD.out.step (P' := Pc D C G H room l1 st1) (pdKeeps (devKp KK.out) X dv) hcd (hcd.foot KKC.out.kept (devKp KK.out)) hb hc
        have Z1 := Lib.hid hs1.1
        have B1 := Lib.hid (hs1.2 _ _ BD.out)
        clear hcd hb hc hs1 ZD BD
        refine hK.out _ _ (sa_of B1.out) ?_
        clear hK K
        try simp only [Act.put, List.setIfInBounds_toArray, List.set_cons_zero, List.set_cons_succ]
        refine restS_lone (i := 11) rfl (by kernel_rfl) (by rfl) (fun K hK => ?_)
        go_simp
        refine (HR.out v1 FP Z1.out).mono ?_
        rintro e vz ⟨rfl, FR, hcd, hb, hc⟩
        have hs1 := Z1.out.swap.step (P' := Pd D X st1) (pcKeeps KKC.out.kept (devKp KK.out) G H room l1 st1) hcd (KK.out.foot _ _ _ _ hcd) hb hc
        have ZZ := Lib.hid hs1.1.swap
        have BZ := Lib.hid (S14.Bs.swap (hs1.2 _ _ (S14.Bs.swap B1.out)))
        clear hcd hb hc hs1 Z1 B1 HP HR
        refine hK.out _ _ (sa_of BZ.out) ?_
        clear hK K
        try simp only [Act.put, List.setIfInBounds_toArray, List.set_cons_zero, List.set_cons_succ]
        refine restS_take (i := 12) (sa_of BZ.out) rfl (by kernel_rfl) (by kernel_rfl) (by kernel_rfl) (by rfl) (fun v hv => by obtain ⟨s0, s1, s2, s3, s4⟩ := hv; go_simp; try with_reducible rfl) ?_
        try simp only [Act.put, List.setIfInBounds_toArray, List.set_cons_zero, List.set_cons_succ]
        refine restS_done (by kernel_rfl) ?_
        clear BZ
        go_wp2
        go_roundw
        case rel => exact ⟨i + 1, FP, FR, l1, st1, by first | rfl | simp | go_num, by omega, HN1.out, HCl1.out, HCo1.out, ZZ.out⟩
        case measure => simp [intOf]; omega
      · obtain ⟨er, her⟩ : ∃ er, er = (dvRead dv at_).2.1 := ⟨_, rfl⟩
        obtain ⟨T, hT⟩ : ∃ T, T = (dvRead dv at_).1 := ⟨_, rfl⟩
        obtain ⟨l1, hl1⟩ : ∃ l1, l1 = (kaRead room l dv at_).2.2.1 := ⟨_, rfl⟩
        have hws := read_same (room := room) (by rw [HN.out.len]; exact HN.out.ko) HCl.out HCo.out at_
        have HN1 := Lib.hid (show KNum 6 room l1 dv (i + 1) by have := HN.out.read at_; rw [hws.2.2.1, ← hl1] at this; exact ⟨this.ko, this.ok.up (by omega), this.len⟩)
        have HCo1 := Lib.hid (show Coh l1 dv by rw [hl1]; exact hws.2.2.2.2)
        have HP := Lib.hid (fun (v : World) (hv : Sd (Pc D C G H room l dv) (Pd D X dv) w v F F2) => KKC.out.read v G H F room l dv i at_ hv.p (by rw [HN.out.len]; exact HN.out.ko) HN.out.ok (by omega) (by rw [HN.out.len]; omega) hroom)
        have HR := Lib.hid (fun (v : World) (FP : Nat → Prop) (hv : Sd (Pc D C G H room l1 dv) (Pd D X dv) w v FP F2) => KK.out.read v X F2 dv i at_ hv.q HN.out.ok (by omega) (by rw [HN.out.len]; omega))
        rw [hws.1, hws.2.1, hws.2.2.1, ← her, ← hT, ← hl1] at HP
        rw [hws.2.2.2.1, ← her, ← hT] at HR
        have hne : (er != er) = false := by simp
        clear her hT hl1 hws
        go_wp2_with fail
        obtain ⟨a, ha⟩ : ∃ a, a = wr.heap.size := ⟨_, rfl⟩
        rw [← ha] at BA ⊢
        clear ha d0 d1 d2 d3 d4
        generalize wr.alloc _ = va at ZA BA ⊢
        refine (HP.out va ZA.out).mono ?_
        rintro e v1 ⟨A5, m5, c5, rfl, hm5, hc5, ho5, FP, hcd, hb, hc, hx⟩
        have hs1 := ZA.out.step (P' := Pc D C G H room l1 dv) (pdKeeps (devKp KK.out) X dv) hcd (hcd.foot KKC.out.kept (devKp KK.out)) hb hc
        have Z1 := Lib.hid hs1.1
        have B1 := Lib.hid (hs1.2 _ _ BA.out)
        have O5 := Lib.hid ho5
        have M5 := Lib.hid hm5
        have X5 := Lib.hid (show ∀ x, A5 = some x → ¬ F2 x.block from fun x hx2 hf => by have h1 := (ho5.lt x hx2).1; have h2 := (ZA.out.qf _ hf).2; omega)
        obtain ⟨s0, s1, s2, s3, s4⟩ := sa_of B1.out
        clear hcd hb hc hs1 ZA BA hm5 ho5 hx
        go_wp2_with fail
        clear s0 s1 s2 s3 s4
        refine (HR.out v1 FP Z1.out).mono ?_
        rintro e vz ⟨A6, m6, c6, rfl, hm6, hc6, ho6, FR, hcd, hb, hc, hx⟩
        have hs1 := Z1.out.swap.step (P' := Pd D X dv) (pcKeeps KKC.out.kept (devKp KK.out) G H room l1 dv) hcd (KK.out.foot _ _ _ _ hcd) hb hc
        have ZZ := Lib.hid hs1.1.swap
        obtain ⟨S, hS⟩ : ∃ S : ByteArray, S = ⟨T.toArray⟩ := ⟨_, rfl⟩
        have hcv5 : (convert 38 9 (.slice A5 m5 c5)).run Try.prog vz = .ok (.string S) vz := by
          have := conv (rd_ch13 O5.out.rd hc (fun x hx2 _ => X5.out x hx2)) c5
          rw [M5.out] at this
          rw [hS]; exact this
        have hcv6 : (convert 38 9 (.slice A6 m6 c6)).run Try.prog vz = .ok (.string S) vz := by
          have := conv ho6.rd c6
          rw [hm6] at this
          rw [hS]; exact this
        have hse : (S != S) = false := bne_self S
        clear hcd hb hc hs1 Z1 B1 HP HR hm6 ho6 hx O5 M5 X5 hS
        go_wp2
        go_roundw
        case rel => exact ⟨i + 1, FP, FR, l1, dv, by first | rfl | simp | go_num, by omega, HN1.out, HCl.out, HCo1.out, ZZ.out⟩
        case measure => simp [intOf]; omega
    · have bi : ¬ (i : Int) < (m : Int) := by omega
      have HL := Lib.hid HN.out.len
      obtain ⟨IM, hIM⟩ : ∃ IM : ByteArray, IM = ⟨(image dv).toArray⟩ := ⟨_, rfl⟩
      have HIM := Lib.hid hIM
      have hse : (IM == IM) = true := beq_same IM
      clear hIM
      go_wp2_with fail
      generalize hvd : wr.drew = vd
      have ZD := Lib.hid (show Sd (Pc D C G H room l dv) (Pd D X dv) w vd F F2 by rw [← hvd]; exact HZ.out.grow (pcKeeps KKC.out.kept (devKp KK.out) G H room l dv) (pdKeeps (devKp KK.out) X dv) ((Below.refl _ wr).drew))
      refine restS_begin (fun _ : World => True) (by kernel_rfl) ?_
      rw [hvd]
      clear hvd HZ
      refine restS_take (i := 0) trivial rfl (by kernel_rfl) (by kernel_rfl) (by kernel_rfl) (by rfl) (fun v hv => by go_simp; try with_reducible rfl) ?_
      try simp only [Act.put, List.setIfInBounds_toArray, List.set_cons_zero, List.set_cons_succ]
      refine restS_take (i := 3) trivial rfl (by kernel_rfl) (by kernel_rfl) (by kernel_rfl) (by rfl) (fun v hv => by go_simp; try with_reducible rfl) ?_
      try simp only [Act.put, List.setIfInBounds_toArray, List.set_cons_zero, List.set_cons_succ]
      refine restS_lone (i := 1) rfl (by kernel_rfl) (by rfl) (fun K hK => ?_)
      go_simp
      obtain ⟨Fc, Fd, hcc, hdd, hap, hff⟩ := ZD.out.p
      refine (KK.out.image vd H Fd dv i hdd HN.out.ok (by omega) (by rw [HL.out]; omega)).mono ?_
      rintro e v1 ⟨A7, m7, c7, rfl, hm7, hc7, hr7, hg7⟩
      have Z1 := Lib.hid (ZD.out.grow (pcKeeps KKC.out.kept (devKp KK.out) G H room l dv) (pdKeeps (devKp KK.out) X dv) hg7)
      have HC7 := Lib.hid (show ∀ v, Grown v1 v → (convert 38 9 (.slice A7 m7 c7)).run Try.prog v = .ok (.string IM) v from fun v hv => by
        have := conv (hr7.grow hv) c7
        rw [hm7] at this
        rw [HIM.out]; exact this)
      clear hcc hdd hap hff hm7 hc7 hr7 hg7 ZD
      refine hK.out _ _ trivial ?_
      clear hK K
      try simp only [Act.put, List.setIfInBounds_toArray, List.set_cons_zero, List.set_cons_succ]
      refine restS_mono (S' := fun v => (convert 38 9 (.slice A7 m7 c7)).run Try.prog v = .ok (.string IM) v) (fun _ _ => trivial) ?_
      have S1 := Lib.hid (HC7.out v1 (Grown.refl _))
      refine restS_take (i := 2) S1.out rfl (by kernel_rfl) (by kernel_rfl) (by kernel_rfl) (by rfl) (fun v hv => by obtain v1' := hv; go_simp; try with_reducible rfl) ?_
      try simp only [Act.put, List.setIfInBounds_toArray, List.set_cons_zero, List.set_cons_succ]
      refine restS_lone (i := 4) rfl (by kernel_rfl) (by rfl) (fun K hK => ?_)
      go_simp
      refine (KK.out.image v1 X F2 dv i Z1.out.q HN.out.ok (by omega) (by rw [HL.out]; omega)).mono ?_
      rintro e v2 ⟨A8, m8, c8, rfl, hm8, hc8, hr8, hg8⟩
      have S2 := Lib.hid (show (convert 38 9 (.slice A7 m7 c7)).run Try.prog v2 = .ok (.string IM) v2 ∧ (convert 38 9 (.slice A8 m8 c8)).run Try.prog v2 = .ok (.string IM) v2 from ⟨HC7.out v2 hg8, by
        have := conv hr8 c8
        rw [hm8] at this
        rw [HIM.out]; exact this⟩)
      have G2 := Lib.hid (Grown.trans Z1.out.gr hg8)
      clear hm8 hc8 hr8 hg8 Z1 HC7
      refine hK.out _ _ S2.out.1 ?_
      clear hK K S1
      try simp only [Act.put, List.setIfInBounds_toArray, List.set_cons_zero, List.set_cons_succ]
      refine restS_mono (S' := fun v => (convert 38 9 (.slice A7 m7 c7)).run Try.prog v = .ok (.string IM) v ∧ (convert 38 9 (.slice A8 m8 c8)).run Try.prog v = .ok (.string IM) v) (fun _ h => h.1) ?_
      refine restS_take (i := 5) S2.out rfl (by kernel_rfl) (by kernel_rfl) (by kernel_rfl) (by rfl) (fun v hv => by obtain ⟨s1, s2⟩ := hv; go_simp; try with_reducible rfl) ?_
      try simp only [Act.put, List.setIfInBounds_toArray, List.set_cons_zero, List.set_cons_succ]
      refine restS_take (i := 6) S2.out rfl (by kernel_rfl) (by kernel_rfl) (by kernel_rfl) (by rfl) (fun v hv => by obtain ⟨s1, s2⟩ := hv; go_simp; try with_reducible rfl) ?_
      try simp only [Act.put, List.setIfInBounds_toArray, List.set_cons_zero, List.set_cons_succ]
      refine restS_take (i := 7) S2.out rfl (by kernel_rfl) (by kernel_rfl) (by kernel_rfl) (by rfl) (fun v hv => by obtain ⟨s1, s2⟩ := hv; go_simp; try with_reducible rfl) ?_
      try simp only [Act.put, List.setIfInBounds_toArray, List.set_cons_zero, List.set_cons_succ]
      refine restS_done (by kernel_rfl) ?_
      go_wp2
      go_ret
      exact ⟨rfl, G2.out⟩
end
end Go.Proofs.Ythakdjaaknbmpaa.S14
namespace Go.Proofs.Ythakdjaaknbmpaa.S14
open S13
open Cf
open Go.RowKit
set_option linter.unusedVariables false
set_option linter.unusedSimpArgs false

section
variable {D : DTab} {C : CTab} {w : World} {G H room i : Nat} {F : Nat → Prop} {l : Ka} {dv : Dv}
theorem cdFlush (K : DevOk D) (KC : CKept C) (h : Cd D C w G H F room l dv) (ok : Ok dv i) (hi : i ≤ 1000) (hl : dv.kept.length ≤ 100) :
    Calls Try.prog 18 #[.pointer (some ⟨H, 0, none⟩)] w fun e w' => e = .returned (.int .i64 (dvFlush dv).1) ∧ CdOn D C w G H F room l (dvFlush dv).2 w' := by
  obtain ⟨Fc, Fd, hc, hd, ha, hF⟩ := h
  exact (K.flush w H Fd dv i hd ok hi hl).mono fun e w' ⟨he, ho⟩ => ⟨he, cd_dev KC hc ha hF ho⟩
theorem cdLimit (K : DevOk D) (KC : CKept C) (h : Cd D C w G H F room l dv) (ok : Ok dv i) (n : Int) (h1 : -9223372036854775808 ≤ n) (h2 : n < 9223372036854775808) :
    Calls Try.prog 20 #[.pointer (some ⟨H, 0, none⟩), .int .i64 n] w fun e w' => e = .returned (.tuple #[]) ∧ CdOn D C w G H F room l (dvLimit dv n) w' := by
  obtain ⟨Fc, Fd, hc, hd, ha, hF⟩ := h
  exact (K.limit w H Fd dv i n hd ok h1 h2).mono fun e w' ⟨he, ho⟩ => ⟨he, cd_dev KC hc ha hF ho⟩
theorem cdCrash (K : DevOk D) (KC : CKept C) (h : Cd D C w G H F room l dv) (ok : Ok dv i) (hi : i ≤ 1000) (hl : dv.kept.length ≤ 100) (A : Option Addr) (m c : Nat) (keep : List Int) (hr : RdN w w.heap.size A keep) (hm : keep.length = m) (hc' : m ≤ c) (hm2 : m ≤ 1000) (hoff : ∀ x, A = some x → keep ≠ [] → ¬ F x.block) :
    Calls Try.prog 22 #[.pointer (some ⟨H, 0, none⟩), .slice A m c] w fun e w' => e = .returned (.int .i64 (dvCrash dv keep).1) ∧ CdOn D C w G H F room l (dvCrash dv keep).2 w' := by
  obtain ⟨Fc, Fd, hc, hd, ha, hF⟩ := h
  exact (K.crash w H Fd dv i A m c keep hd ok hi hl hr hm hc' hm2 (fun x hx hne hf => hoff x hx hne ((hF _).2 (.inr hf)))).mono fun e w' ⟨he, ho⟩ => ⟨he, cd_dev KC hc ha hF ho⟩
theorem cdTamper (K : DevOk D) (KC : CKept C) (h : Cd D C w G H F room l dv) (ok : Ok dv i) (hi : i ≤ 1000) (hl : dv.kept.length ≤ 100) (n : Int) (A : Option Addr) (m c : Nat) (b : List UInt8) (hr : Rd w w.heap.size A b) (hm : b.length = m) (hc' : m ≤ c) (hm2 : m ≤ 1000) (hoff : ∀ x, A = some x → b ≠ [] → ¬ F x.block) :
    Calls Try.prog 24 #[.pointer (some ⟨H, 0, none⟩), .int .i64 n, .slice A m c] w fun e w' => e = .returned (.int .i64 (dvTamper dv n b).1) ∧ CdOn D C w G H F room l (dvTamper dv n b).2 w' := by
  obtain ⟨Fc, Fd, hc, hd, ha, hF⟩ := h
  exact (K.tamper w H Fd dv i n A m c b hd ok hi hl hr hm hc' hm2 (fun x hx hne hf => hoff x hx hne ((hF _).2 (.inr hf)))).mono fun e w' ⟨he, ho⟩ => ⟨he, cd_dev KC hc ha hF ho⟩
end
section
variable {base : Nat} {w : World} {Q R room i : Nat} {F : Nat → Prop} {l : Ka} {dv : Dv}
theorem qFlush (h : Cd (RD base) (RC base) w Q R F room l dv) (ok : Ok dv i) (hi : i ≤ 1000) (hl : dv.kept.length ≤ 100) :
    Calls Try.prog 19 #[.pointer (some ⟨R, 0, none⟩)] w fun e w' => e = .returned (.int .i64 (dvFlush dv).1) ∧ CdOn (RD base) (RC base) w Q R F room l (dvFlush dv).2 w' := by
  obtain ⟨Fc, Fd, hc, hd, ha, hF⟩ := h
  exact (rFlush hd ok hi hl).mono fun e w' ⟨he, ho⟩ => ⟨he, cd_dev (rcKept base) hc ha hF ho⟩
theorem qLimit (h : Cd (RD base) (RC base) w Q R F room l dv) (n : Int) :
    Calls Try.prog 21 #[.pointer (some ⟨R, 0, none⟩), .int .i64 n] w fun e w' => e = .returned (.tuple #[]) ∧ CdOn (RD base) (RC base) w Q R F room l (dvLimit dv n) w' := by
  obtain ⟨Fc, Fd, hc, hd, ha, hF⟩ := h
  exact (rLimit hd n).mono fun e w' ⟨he, ho⟩ => ⟨he, cd_dev (rcKept base) hc ha hF ho⟩
theorem qCrash (h : Cd (RD base) (RC base) w Q R F room l dv) (ok : Ok dv i) (hi : i ≤ 1000) (hl : dv.kept.length ≤ 100) (A : Option Addr) (m c : Nat) (keep : List Int) (hr : RdN w w.heap.size A keep) (hm : keep.length = m) (hm2 : m ≤ 1000) (hoff : ∀ x, A = some x → keep ≠ [] → ¬ F x.block) :
    Calls Try.prog 23 #[.pointer (some ⟨R, 0, none⟩), .slice A m c] w fun e w' => e = .returned (.int .i64 (dvCrash dv keep).1) ∧ CdOn (RD base) (RC base) w Q R F room l (dvCrash dv keep).2 w' := by
  obtain ⟨Fc, Fd, hc, hd, ha, hF⟩ := h
  exact (rCrash hd ok hi hl A m c keep hr hm hm2 (fun x hx hne hf => hoff x hx hne ((hF _).2 (.inr hf)))).mono fun e w' ⟨he, ho⟩ => ⟨he, cd_dev (rcKept base) hc ha hF ho⟩
theorem qTamper (h : Cd (RD base) (RC base) w Q R F room l dv) (ok : Ok dv i) (hi : i ≤ 1000) (hl : dv.kept.length ≤ 100) (n : Int) (A : Option Addr) (m c : Nat) (b : List UInt8) (hr : Rd w w.heap.size A b) (hm : b.length = m) (hm2 : m ≤ 1000) (hoff : ∀ x, A = some x → b ≠ [] → ¬ F x.block) :
    Calls Try.prog 25 #[.pointer (some ⟨R, 0, none⟩), .int .i64 n, .slice A m c] w fun e w' => e = .returned (.int .i64 (dvTamper dv n b).1) ∧ CdOn (RD base) (RC base) w Q R F room l (dvTamper dv n b).2 w' := by
  obtain ⟨Fc, Fd, hc, hd, ha, hF⟩ := h
  exact (rTamper hd ok hi hl n A m c b hr hm hm2 (fun x hx hne hf => hoff x hx hne ((hF _).2 (.inr hf)))).mono fun e w' ⟨he, ho⟩ => ⟨he, cd_dev (rcKept base) hc ha hF ho⟩
theorem qDropC (h : Cd (RD base) (RC base) w Q R F room l dv) (hl : l.length ≤ 1000) (n : Int) :
    Calls Try.prog 16 #[.pointer (some ⟨Q, 0, none⟩), .int .i64 n] w fun e w' => e = .returned (.tuple #[]) ∧ CdOn (RD base) (RC base) w Q R F room (kaDrop l n) dv w' := by
  obtain ⟨Fc, Fd, ⟨Aa, Aw, hq, rfl⟩, hd, ha, hF⟩ := h
  exact (qDrop hq hl n).mono fun e w' ⟨he, ho⟩ => ⟨he, cd_cac (rdKept base) hd ha hF (rOn ho)⟩
/-- Its cells, as far as a law reads them. -/
theorem qCells (h : Cd (RD base) (RC base) w Q R F room l dv) : ∃ Aa ca Ad cd, w.cell? ⟨Q, 0, none⟩ = some (.pointer (some ⟨R, 0, none⟩)) ∧ w.cell? ⟨Q, 2, none⟩ = some (.slice Aa l.length ca) ∧ S15.RdZ w w.heap.size Aa (keys l) ∧ dv.pend.length ≤ cd ∧ w.cell? ⟨R, 1, none⟩ = some (.slice Ad dv.pend.length cd) ∧ w.frozen? ⟨Q, 2, none⟩ = false ∧ (∃ v, w.cell? ⟨Q, 3, none⟩ = some v) ∧ Q < w.heap.size ∧ R < w.heap.size := by
  obtain ⟨Fc, Fd, ⟨Aa, Aw, hq, rfl⟩, hd, ha, hF⟩ := h
  obtain ⟨ca, cw, l1, l2, q0, q1, q2, q3⟩ := hq.cells
  obtain ⟨Ad, cd, hcd, r1, _⟩ := rd_cells hd
  obtain ⟨ca', cw', hQ, o1, o2⟩ := hq.ex
  have e : kvs l = (keys l).map S15.zv := by unfold kvs keys; rw [List.map_map]; rfl
  rw [e] at o1
  exact ⟨Aa, ca, Ad, cd, q0, q2, S15.OwZ.rd (base := base) (c := ca') o1, hcd, r1, hq.frozen 2, ⟨_, q3⟩, lt_of_heap hQ, lt_of_cell r1⟩
theorem q0_of (h : Cd (RD base) (RC base) w Q R F room l dv) : w.cell? ⟨Q, 0, none⟩ = some (.pointer (some ⟨R, 0, none⟩)) := by
  obtain ⟨_, _, _, _, h1, _⟩ := qCells h
  exact h1
/-- Its two rows are set to nothing. -/
theorem qClear (h : Cd (RD base) (RC base) w Q R F room l dv) : CdOn (RD base) (RC base) w Q R F room [] dv ((w.setCell ⟨Q, 2, none⟩ (.slice none 0 0)).setCell ⟨Q, 3, none⟩ (.slice none 0 0)) ∧ (w.setCell ⟨Q, 2, none⟩ (.slice none 0 0)).frozen? ⟨Q, 3, none⟩ = false := by
  obtain ⟨Fc, Fd, ⟨Aa, Aw, hq, rfl⟩, hd, ha, hF⟩ := h
  obtain ⟨ca, cw, hQ, _, _⟩ := hq.ex
  refine ⟨cd_cac (rdKept base) hd ha hF (rOn ⟨none, none, hq.put2 (w' := w) (l' := []) (n := 0) rfl rfl (Ow.nil _ _ _) (Ow.nil _ _ _) (fun x y hx => by cases hx) (fun x hx => by cases hx) (fun x hx => by cases hx), fun k hk => ?_, ?_⟩), ?_⟩
  · rcases hk with hk | ⟨x, hx, _⟩ | ⟨x, hx, _⟩
    · exact .inl (.inl hk)
    · cases hx
    · cases hx
  · exact Ch.setCell (Ch.setCell (Ch.refl _ _) (p := ⟨Q, 2, none⟩) (.inl (.inl rfl)) _) (p := ⟨Q, 3, none⟩) (.inl (.inl rfl)) _
  · exact frozen_of_row _ Q 3 _ _ (heap_setCell_same w Q 2 _ _ _ hQ)
end
section
variable {k room i : Nat} {l : Ka} {dv : Dv}
theorem KNum.up (h : KNum k room l dv i) {j : Nat} (hj : i ≤ j) : KNum k room l dv j := ⟨h.ko, h.ok.up hj, h.len⟩
theorem KNum.flush (h : KNum k room l dv i) : KNum k room l (dvFlush dv).2 i := ⟨h.ko, ok_flush h.ok, (len_flush dv).trans h.len⟩
theorem KNum.limit (h : KNum k room l dv i) (n : Int) (hn : n < 9223372036854775808) : KNum k room l (dvLimit dv n) i := ⟨h.ko, ok_limit h.ok n hn, h.len⟩
theorem KNum.crash (h : KNum k room l dv i) (keep : List Int) : KNum k room l (dvCrash dv keep).2 i := ⟨h.ko, ok_crash h.ok keep, (len_crash dv keep).trans h.len⟩
theorem kread_len (h : KNum k room l dv i) (n : Int) : (kaRead room l dv n).1 = [] ∨ (kaRead room l dv n).1.length = 512 := by
  unfold kaRead
  split
  · rename_i s hs
    obtain ⟨p, hp, _, rfl⟩ := find_some hs
    exact .inr (h.ko.len p hp)
  · split
    · rename_i h1
      exact .inr (read_len h.ok h1)
    · exact .inl rfl
/-- An object beside which a cell is written. -/
theorem Sd.beside {P Q : World → (Nat → Prop) → Prop} {w0 w : World} {F F2 : Nat → Prop} (KP : Keeps P) (KQ : Keeps Q) (h : Sd P Q w0 w F F2) {a : Nat} (h1 : ¬ F a) (h2 : ¬ F2 a) (ha : w0.heap.size ≤ a) (j : Nat) (u : Value) : Sd P Q w0 (w.setCell ⟨a, j, none⟩ u) F F2 := by
  have hb : ∀ k, k ≠ a → (w.setCell ⟨a, j, none⟩ u).heap[k]? = w.heap[k]? := fun k hk => heap_setCell_other w ⟨a, j, none⟩ k u hk
  have hs : (w.setCell ⟨a, j, none⟩ u).heap.size = w.heap.size := by simp
  exact { p := KP w _ F h.p (fun k hk => hb k (fun e => h1 (by rw [← e]; exact hk))) (by omega)
          q := KQ w _ F2 h.q (fun k hk => hb k (fun e => h2 (by rw [← e]; exact hk))) (by omega)
          pf := fun k hk => by rw [hs]; exact h.pf k hk
          qf := fun k hk => by rw [hs]; exact h.qf k hk
          ap := h.ap
          gr := ⟨h.gr.os, h.gr.tape, h.gr.output, by rw [hs]; exact h.gr.size, fun k hk => (hb k (by omega)).trans (h.gr.block k hk)⟩ }
end
end Go.Proofs.Ythakdjaaknbmpaa.S14
