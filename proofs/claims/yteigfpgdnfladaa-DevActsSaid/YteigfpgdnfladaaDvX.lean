/-
  The laws of dev: DevLosses' walk.
-/
import Derived.Test.YteigfpgdnfladaaDvS
namespace Go.Proofs.Yteigfpgdnfladaa.S13
open Cf
open Go.RowKit
set_option linter.unusedVariables false
set_option linter.unusedSimpArgs false
theorem ok_dR {l : WL} (h : Gd l) (i : Nat) (hi : l.length ≤ i) : Ok (dR l) i := by
  have := ok_flush (ok_dL h i hi)
  rw [dL_flush] at this
  exact this
theorem eL_le (ab : Bool) (l : WL) : (eL ab l).length ≤ l.length := by cases ab <;> simp [eL]
section
variable {D : DTab}
set_option maxHeartbeats 4000000 in
theorem losses_walk (K : DevOk D) (A : Option Addr) (n c : Nat) (at_ : List UInt8) (ab : Bool) (w : World) (hA : Rd w w.heap.size A at_) (hn : at_.length = n) (hnc : n ≤ c) :
    Calls Try.prog 6 #[.slice A n c, .bool ab] w fun e w' => e = .returned (.bool true) ∧ Below w.heap.size w w' := by
  have KK := Lib.hid K
  have HA := Lib.hid hA
  have HN := Lib.hid hn
  clear K hA hn
  by_cases h1 : (n : Int) > 20
  · go_enter Try.func6, Try.ntmps6
    go_wp2_with fail
    refine (awakeD KK.out _).mono ?_
    rintro e w1 ⟨rfl, hg1⟩
    have G1 := Lib.hid hg1
    clear hg1
    go_wp2_with fail
    refine (awakeD KK.out _).mono ?_
    rintro e w2 ⟨rfl, hg2⟩
    have G2 := Lib.hid (Grown.trans G1.out hg2)
    clear hg2
    go_wp2
    go_ret
    exact ⟨rfl, G2.out⟩
  go_enter Try.func6, Try.ntmps6
  go_wp2_with fail
  refine (awakeD KK.out _).mono ?_
  rintro e w1 ⟨rfl, hg1⟩
  have GW := Lib.hid hg1
  clear hg1
  go_wp2_with fail
  refine (KK.out.new w1 8 (by omega) (by omega)).mono ?_
  rintro e w2 ⟨G, F, rfl, hd, hF, hg⟩
  have Z2 := Lib.hid (show DSince D w1 w2 G F (dL []) from ⟨hd, hF, hg⟩)
  clear hd hF hg
  go_wp2_with fail
  refine (KK.out.new w2 8 (by omega) (by omega)).mono ?_
  rintro e w3 ⟨R, F2, rfl, hd, hF, hg⟩
  have Z3 := Lib.hid (show L2 D w1 w3 G F (dL []) R F2 (dL []) none 0 0 from
    ⟨Z2.out.grow KK.out hg, ⟨hd, fun k hk => Nat.le_trans Z2.out.2.2.size (hF k hk), Grown.trans Z2.out.2.2 hg⟩, fun k hk hk2 => by
      have := KK.out.foot _ _ _ _ Z2.out.1 k hk
      have := hF k hk2
      omega, Ow.nil _ _ _, fun x hx => by cases hx⟩)
  clear hd hF hg Z2
  obtain ⟨iI, hiI, hzI, hsI, hbI⟩ := info_parts infoI
  go_wp2_with fail
  go_loopw [9, 10] (fun v9 v10 wr => ∃ (i m : Nat) (l : WL) (F F2 : Nat → Prop) (Ak : Option Addr) (ck : Nat), v9 = .slice Ak m ck ∧ v10 = .int .i64 (i : Int) ∧ i ≤ n ∧ Hid (l.length = i) ∧ Hid (m = (eL ab l).length) ∧ Hid (Gd l) ∧ Hid (L2 D w1 wr G F (dL l) R F2 (dL (eL ab l)) Ak ck m)) (fun _ v10 _ => n - (intOf v10).toNat)
  case atStart => exact ⟨0, 0, [], F, F2, none, 0, rfl, rfl, Nat.zero_le _, rfl, (by cases ab <;> rfl), (fun p hp => by cases hp), (by rw [show eL ab [] = [] by cases ab <;> rfl]; exact Z3.out)⟩
  case round =>
    clear Z3
    obtain ⟨i, m, l, F3, F4, Ak, ck, rfl, rfl, hi, HL, HM, HG, HZ⟩ := hrel
    by_cases hlt : i < n
    · have bi : (i : Int) < (n : Int) := by omega
      have hia : i < at_.length := by have := HN.out; omega
      obtain ⟨x, hx⟩ : ∃ x, x = at_[i] := ⟨_, rfl⟩
      obtain ⟨b5, o5, rfl, hb5, hcw⟩ : ∃ b off, A = some ⟨b, off, none⟩ ∧ b < w.heap.size ∧ w.cell? ⟨b, off + i, none⟩ = some (.int .u8 (x.toNat : Int)) := by
        rcases HA.out with e | ⟨b, off, e, hb, hc⟩
        · rw [e] at hia; simp at hia
        · exact ⟨b, off, e, hb, by rw [hx]; exact hc i hia⟩
      have HCW := Lib.hid (show ∀ v, Grown w v → v.cell? ⟨b5, o5 + i, none⟩ = some (.int .u8 (x.toNat : Int)) from fun v hv => (hv.cell (p := ⟨b5, o5 + i, none⟩) hb5).trans hcw)
      clear hx hcw
      have hcx := HCW.out wr (Grown.trans GW.out HZ.out.d.2.2)
      obtain ⟨a, ha⟩ : ∃ a, a = x.toNat % 8 := ⟨_, rfl⟩
      have ha8 : a < 8 := by omega
      have hat : ((x.toNat : Int).tmod 8) = (a : Int) := by rw [Int.tmod_eq_emod_of_nonneg (by omega)]; omega
      clear ha
      obtain ⟨y, hy⟩ : ∃ y, y = UInt8.ofNat (i + 1) := ⟨_, rfl⟩
      have hw8 : IntKind.u8.wrap ((i : Int) + 1) = (y.toNat : Int) := by
        rw [hy, UInt8.toNat_ofNat']
        have e : IntKind.u8.wrap ((i : Int) + 1) = ((i : Int) + 1) % 256 := rfl
        rw [e]
        omega
      clear hy
      have NG := Lib.hid (show Gd (l ++ [(a, pad512 [y])]) from fun p hp => by
        rcases List.mem_append.1 hp with h | h
        · exact HG.out p h
        · simp only [List.mem_singleton] at h
          subst h
          exact ⟨ha8, pad512_len _ (by show 1 ≤ 512; omega)⟩)
      go_wp2_with fail
      refine (wrL KK.out HZ.out (ok_dL HG.out 30 (by have := HL.out; omega)) (by omega) (by rw [dL_len]; omega) (a : Int) [y] 1 (0, 0) rfl (by omega) _ rfl).mono ?_
      rw [dL_write l a ha8 y]
      rintro e w6 ⟨rfl, F6, hz⟩
      have T6 := Lib.hid hz
      clear hz HZ hcx
      have NL := Lib.hid (show (l ++ [(a, pad512 [y])]).length = i + 1 by rw [List.length_append, HL.out]; rfl)
      cases ab with
      | false =>
        go_wp2
        exact ⟨⟨i + 1, m, l ++ [(a, pad512 [y])], F6, F4, Ak, ck, by simp, by simp, by omega, NL.out, HM.out, NG.out, T6.out⟩, by simp [intOf]; omega⟩
      | true =>
        obtain rfl : m = i := by have := HM.out; rw [show eL true l = l from rfl, HL.out] at this; exact this
        have hcx := HCW.out w6 (Grown.trans GW.out T6.out.d.2.2)
        go_wp2_with fail
        refine (wrL KK.out T6.out.swap (ok_dL HG.out 30 (by have := HL.out; omega)) (by omega) (by rw [dL_len]; omega) (a : Int) [y] 1 (0, 0) rfl (by omega) _ rfl).mono ?_
        rw [show dL (eL true l) = dL l from rfl, dL_write l a ha8 y]
        rintro e w7 ⟨rfl, F7, hz⟩
        have T7 := Lib.hid hz.swap
        have hsz := T7.out.d.2.2.size
        clear hz T6 hcx
        go_wp2_with (first
          | (at_builtin
             refine wpList_appOw (t := 32) rfl hiI hzI hsI hbI rfl (by decide) rfl (.tmp 65) (.tmp 67) rfl (n := m) (by simp) rfl (owGrow T7.out.row (alloc_below w7 _)) rfl (cellNew w7 _ _) rfl (by omega) (by have := (alloc_below w7 (.cells #[.int .i64 (m : Int)] 3)).size; omega) ?_
             intro A8 c8 w8 ho8 hg8 hm8
             have T8 := Lib.hid ((T7.out.grow KK.out (alloc_below w7 (.cells #[.int .i64 (m : Int)] 3))).app KK.out ho8 hg8 hm8)
             clear ho8 hg8 hm8))
        exact ⟨⟨m + 1, m + 1, l ++ [(a, pad512 [y])], F6, F7, A8, c8, by simp, by simp, by omega, NL.out, NL.out.symm, NG.out, T8.out⟩, by simp [intOf]; omega⟩
    · have bi : ¬ (i : Int) < (n : Int) := by omega
      have hll : l.length ≤ 30 := by have := HL.out; omega
      have hle := eL_le ab l
      have GE := Lib.hid (gd_eL HG.out ab)
      go_wp2_with fail
      refine (KK.out.flush wr R F4 (dL (eL ab l)) 30 HZ.out.e.1 (ok_dL GE.out 30 (by omega)) (by omega) (by rw [dL_len]; omega)).mono ?_
      rintro e w6 ⟨rfl, hd⟩
      rw [dL_flush] at hd
      obtain ⟨F5, hz⟩ := HZ.out.swap.step KK.out hd
      have T6 := Lib.hid hz.swap
      clear hz hd HZ
      go_wp2_with fail
      refine (KK.out.crash w6 G F3 (dL l) 30 Ak m ck (ints m) T6.out.d.1 (ok_dL HG.out 30 hll) (by omega) (by rw [dL_len]; omega) T6.out.rdN (ints_len m) (by have := T6.out.row.le; simpa using this) (by have := HM.out; omega) (fun x hx _ => (T6.out.off x hx).1)).mono ?_
      have hcr := dL_crash ab l
      rw [← HM.out] at hcr
      rw [hcr]
      rintro e w7 ⟨rfl, hd⟩
      obtain ⟨F6, hz⟩ := T6.out.step KK.out hd
      have T7 := Lib.hid hz
      clear hz hd T6 hcr
      obtain ⟨e5, he5⟩ : ∃ e5, e5 = eL ab l := ⟨_, rfl⟩
      rw [← he5] at T7 GE hle
      have NR := Lib.hid (ok_dR GE.out 30 (by omega))
      have hr8 : (dR e5).kept.length ≤ 100 := by show (lay _ _).length ≤ 100; rw [lay_len]; show (List.replicate 8 z512).length ≤ 100; rw [List.length_replicate]; omega
      obtain ⟨I, hI⟩ : ∃ I, I = image (dR e5) := ⟨_, rfl⟩
      have HI := Lib.hid hI
      clear hI he5
      go_wp2_with fail
      refine rest_begin (by kernel_rfl) ?_
      have T8 := Lib.hid (T7.out.grow KK.out (show Grown w7 w7.drew from (Below.refl _ w7).drew))
      clear T7
      generalize w7.drew = w8 at T8 ⊢
      refine rest_take (i := 0) rfl (by kernel_rfl) (by kernel_rfl) (by kernel_rfl) (by rfl) (fun w' hg => by go_simp; try with_reducible rfl) ?_
      try simp only [Act.put, List.setIfInBounds_toArray, List.set_cons_zero, List.set_cons_succ]
      refine rest_take (i := 1) rfl (by kernel_rfl) (by kernel_rfl) (by kernel_rfl) (by rfl) (fun w' hg => by go_simp; try with_reducible rfl) ?_
      try simp only [Act.put, List.setIfInBounds_toArray, List.set_cons_zero, List.set_cons_succ]
      refine rest_take (i := 2) rfl (by kernel_rfl) (by kernel_rfl) (by kernel_rfl) (by rfl) (fun w' hg => by go_simp; try with_reducible rfl) ?_
      try simp only [Act.put, List.setIfInBounds_toArray, List.set_cons_zero, List.set_cons_succ]
      refine rest_take (i := 3) rfl (by kernel_rfl) (by kernel_rfl) (by kernel_rfl) (by rfl) (fun w' hg => by go_simp; try with_reducible rfl) ?_
      try simp only [Act.put, List.setIfInBounds_toArray, List.set_cons_zero, List.set_cons_succ]
      refine rest_take (i := 4) rfl (by kernel_rfl) (by kernel_rfl) (by kernel_rfl) (by rfl) (fun w' hg => by go_simp; try with_reducible rfl) ?_
      try simp only [Act.put, List.setIfInBounds_toArray, List.set_cons_zero, List.set_cons_succ]
      refine rest_take (i := 5) rfl (by kernel_rfl) (by kernel_rfl) (by kernel_rfl) (by rfl) (fun w' hg => by go_simp; try with_reducible rfl) ?_
      try simp only [Act.put, List.setIfInBounds_toArray, List.set_cons_zero, List.set_cons_succ]
      refine rest_take (i := 8) rfl (by kernel_rfl) (by kernel_rfl) (by kernel_rfl) (by rfl) (fun w' hg => by go_simp; try with_reducible rfl) ?_
      try simp only [Act.put, List.setIfInBounds_toArray, List.set_cons_zero, List.set_cons_succ]
      refine rest_lone (i := 6) rfl (by kernel_rfl) (by rfl) (fun K hK => ?_)
      go_simp
      refine (KK.out.image w8 G F6 (dR e5) 30 T8.out.d.1 NR.out (by omega) hr8).mono ?_
      rintro e w9 ⟨A1, m1, c1, rfl, hl1, hc1, hrd1, hg1⟩
      rw [← HI.out] at hl1 hrd1
      refine hK.out _ _ hg1 ?_
      clear hK K
      have V1 := Lib.hid (show ∀ v, Grown w9 v → (convert 31 9 (.slice A1 m1 c1)).run Try.prog v = .ok (.string ⟨I.toArray⟩) v from fun v hv => by
        have := conv (hrd1.grow hv) c1
        rw [hl1] at this
        exact this)
      have T9 := Lib.hid (T8.out.grow KK.out hg1)
      clear hl1 hc1 hrd1 hg1 T8
      try simp only [Act.put, List.setIfInBounds_toArray, List.set_cons_zero, List.set_cons_succ]
      refine rest_take (i := 7) rfl (by kernel_rfl) (by kernel_rfl) (by kernel_rfl) (by rfl) (fun w' hg => by have hv1 := V1.out w' hg; go_simp; try with_reducible rfl) ?_
      try simp only [Act.put, List.setIfInBounds_toArray, List.set_cons_zero, List.set_cons_succ]
      refine rest_lone (i := 9) rfl (by kernel_rfl) (by rfl) (fun K hK => ?_)
      go_simp
      refine (KK.out.image w9 R F5 (dR e5) 30 T9.out.e.1 NR.out (by omega) hr8).mono ?_
      rintro e w10 ⟨A2, m2, c2, rfl, hl2, hc2, hrd2, hg2⟩
      rw [← HI.out] at hl2 hrd2
      refine hK.out _ _ hg2 ?_
      clear hK K
      have V2 := Lib.hid (show ∀ v, Grown w10 v → (convert 31 9 (.slice A2 m2 c2)).run Try.prog v = .ok (.string ⟨I.toArray⟩) v from fun v hv => by
        have := conv (hrd2.grow hv) c2
        rw [hl2] at this
        exact this)
      have T10 := Lib.hid (T9.out.grow KK.out hg2)
      clear hl2 hc2 hrd2 hg2 T9 V1
      try simp only [Act.put, List.setIfInBounds_toArray, List.set_cons_zero, List.set_cons_succ]
      refine rest_take (i := 10) rfl (by kernel_rfl) (by kernel_rfl) (by kernel_rfl) (by rfl) (fun w' hg => by have hv2 := V2.out w' hg; go_simp; try with_reducible rfl) ?_
      try simp only [Act.put, List.setIfInBounds_toArray, List.set_cons_zero, List.set_cons_succ]
      refine rest_take (i := 11) (v := .bool true) rfl (by kernel_rfl) (by kernel_rfl) (by kernel_rfl) (by rfl) (fun w' hg => by go_simp; try simp) ?_
      try simp only [Act.put, List.setIfInBounds_toArray, List.set_cons_zero, List.set_cons_succ]
      refine rest_take (i := 12) rfl (by kernel_rfl) (by kernel_rfl) (by kernel_rfl) (by rfl) (fun w' hg => by go_simp; try with_reducible rfl) ?_
      try simp only [Act.put, List.setIfInBounds_toArray, List.set_cons_zero, List.set_cons_succ]
      refine rest_take (i := 13) rfl (by kernel_rfl) (by kernel_rfl) (by kernel_rfl) (by rfl) (fun w' hg => by go_simp; try with_reducible rfl) ?_
      try simp only [Act.put, List.setIfInBounds_toArray, List.set_cons_zero, List.set_cons_succ]
      refine rest_take (i := 14) rfl (by kernel_rfl) (by kernel_rfl) (by kernel_rfl) (by rfl) (fun w' hg => by go_simp; try with_reducible rfl) ?_
      try simp only [Act.put, List.setIfInBounds_toArray, List.set_cons_zero, List.set_cons_succ]
      refine rest_lone (i := 15) rfl (by kernel_rfl) (by rfl) (fun K hK => ?_)
      go_simp
      refine (KK.out.waits w10 G F6 (dR e5) 30 T10.out.d.1 NR.out (by omega)).mono ?_
      rintro e w11 ⟨rfl, hg11⟩
      rw [show (dR e5).pend.length = 0 from rfl]
      refine hK.out _ _ hg11 ?_
      clear hK K
      have G11 := Lib.hid (Grown.trans GW.out (Grown.trans T10.out.d.2.2 hg11))
      clear hg11
      try simp only [Act.put, List.setIfInBounds_toArray, List.set_cons_zero, List.set_cons_succ]
      refine rest_take (i := 16) rfl (by kernel_rfl) (by kernel_rfl) (by kernel_rfl) (by rfl) (fun w' hg => by go_simp; try with_reducible rfl) ?_
      try simp only [Act.put, List.setIfInBounds_toArray, List.set_cons_zero, List.set_cons_succ]
      refine rest_take (i := 17) rfl (by kernel_rfl) (by kernel_rfl) (by kernel_rfl) (by rfl) (fun w' hg => by go_simp; try with_reducible rfl) ?_
      try simp only [Act.put, List.setIfInBounds_toArray, List.set_cons_zero, List.set_cons_succ]
      refine rest_take (i := 18) rfl (by kernel_rfl) (by kernel_rfl) (by kernel_rfl) (by rfl) (fun w' hg => by go_simp; try with_reducible rfl) ?_
      try simp only [Act.put, List.setIfInBounds_toArray, List.set_cons_zero, List.set_cons_succ]
      refine rest_done (by kernel_rfl) ?_
      go_wp2
      go_ret
      exact ⟨rfl, G11.out⟩
end
end Go.Proofs.Yteigfpgdnfladaa.S13
