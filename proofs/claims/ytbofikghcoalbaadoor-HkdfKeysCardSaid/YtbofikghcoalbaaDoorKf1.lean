/-
  The walk of HkdfKeys.
-/
import Derived.Test.YtbofikghcoalbaaDoorKfY
namespace Go.Proofs.YtbofikghcoalbaaDoor.S6
open Go.RowKit
open S4 (Kt arr arr_size arr_one infoA rd_block u64D conv1)
open S5 (macL macL_len mac_any mac_one conv_bytes refMac_any)
set_option linter.unusedVariables false
set_option linter.unusedSimpArgs false

set_option maxHeartbeats 4000000 in
theorem keys_walk (A : Option Addr) (n c : Nat) (k : List UInt8) (B : Option Addr) (m d : Nat) (T : List UInt8) (N : Int) (w : World) (hkt : Kt w) (h : Rd w w.heap.size A k) (hn : k.length = n) (hc : n ≤ c) (hnm : n ≤ 9223372036854775807)
    (h2 : Rd w w.heap.size B T) (hm : T.length = m) (hd : m ≤ d) (hmm : m ≤ 9223372036854775807) (hN : -9223372036854775808 ≤ N ∧ N ≤ 9223372036854775807) :
    Calls Tryd.prog 3 #[.slice A n c, .slice B m d, .int .i64 N] w (Says w true) := by
  have H := Lib.hid h
  have Hn := Lib.hid hn
  have H2 := Lib.hid h2
  have Hm := Lib.hid hm
  have Hkt := Lib.hid hkt
  clear h hn h2 hm hkt
  go_enter Tryd.func3, Tryd.ntmps3
  go_wp2_with fail
  refine (awake _ Hkt.out).mono ?_
  rintro e w1 ⟨rfl, hb⟩
  have Hkt1 := Lib.hid (Hkt.out.grow hb)
  have Hb1 := Lib.hid (show Grown w w1 from hb)
  have H1 := Lib.hid (H.out.grow hb)
  have H21 := Lib.hid (H2.out.grow hb)
  clear hb H H2 Hkt
  by_cases ha : 200 < n
  · go_wp2_with fail
    refine (awake_twice w _ Hb1.out Hkt1.out).mono ?_
    rintro e w2 ⟨rfl, hb2⟩
    have Hb2 := Lib.hid hb2
    clear hb2
    go_wp2
    go_ret
    exact ⟨rfl, Hb2.out⟩
  by_cases hcc : 200 < m
  · go_wp2_with fail
    refine (awake_twice w _ Hb1.out Hkt1.out).mono ?_
    rintro e w2 ⟨rfl, hb2⟩
    have Hb2 := Lib.hid hb2
    clear hb2
    go_wp2
    go_ret
    exact ⟨rfl, Hb2.out⟩
  by_cases hNN : 500 < N ∧ N ≤ 16320
  · obtain ⟨hN1, hN2⟩ := hNN
    go_wp2_with fail
    refine (awake_twice w _ Hb1.out Hkt1.out).mono ?_
    rintro e w2 ⟨rfl, hb2⟩
    have Hb2 := Lib.hid hb2
    clear hb2
    go_wp2
    go_ret
    exact ⟨rfl, Hb2.out⟩
  have hcase : N < 0 ∨ 16320 < N ∨ ∃ M : Nat, N = (M : Int) ∧ M ≤ 500 := by
    by_cases h1 : N < 0
    · exact .inl h1
    · by_cases h2 : 16320 < N
      · exact .inr (.inl h2)
      · exact .inr (.inr ⟨N.toNat, by omega, by omega⟩)
  rcases hcase with hlow | hhigh | ⟨M, rfl, hM⟩
  all_goals
    go_wp2_with fail
    refine (extract_any A n c k B m d T _ Hkt1.out H1.out Hn.out hc (by omega) H21.out Hm.out hd (by omega)).mono ?_
    rintro e w2 ⟨rfl, hb2⟩
    obtain ⟨D, hD⟩ : ∃ D, D = arr (macL k T) := ⟨_, rfl⟩
    rw [← hD]
    have HD := Lib.hid hD
    have Hkt2 := Lib.hid (Hkt1.out.grow hb2)
    have Hb2 := Lib.hid (Grown.trans Hb1.out hb2)
    have H2 := Lib.hid (H1.out.grow hb2)
    have H22 := Lib.hid (H21.out.grow hb2)
    clear hb2 hD Hkt1 Hb1 H1 H21
    go_wp2_with (first
      | (refine wpList_store_last rfl 24 (.tmp 7) (.tmp 33) rfl rfl rfl (by rw [HD.out, arr_size, macL_len]; exact infoA) (by rw [HD.out, arr_size, macL_len]; rfl) (by rw [HD.out]; exact arr_one _) ?_))
    have RD := Lib.hid (show Rd (w2.alloc (.cells D 24)) (w2.alloc (.cells D 24)).heap.size (some ⟨w2.heap.size, 0, none⟩) (macL k T) by
      rw [HD.out]
      exact rd_block (t := 24) (heap_alloc_new w2 _) (by simp))
    have hga := alloc_below w2 (.cells D 24)
    have Ha3 := Lib.hid (H2.out.grow hga)
    have Hb3 := Lib.hid (H22.out.grow hga)
    have Hk3 := Lib.hid (Hkt2.out.grow hga)
    have G3 := Lib.hid (Grown.trans Hb2.out hga)
    clear hga H2 H22 Hkt2 Hb2
    generalize w2.alloc (.cells D 24) = w3 at *
    generalize w2.heap.size = g2 at *
    obtain ⟨SD, hSD⟩ : ∃ S : ByteArray, S = ⟨(macL k T).toArray⟩ := ⟨_, rfl⟩
    have HSD := Lib.hid hSD
    obtain ⟨SK, hSK⟩ : ∃ S : ByteArray, S = ⟨k.toArray⟩ := ⟨_, rfl⟩
    have HSK := Lib.hid hSK
    clear hSD hSK
    try simp only [Act.put]
    refine rest_start (by kernel_rfl) fun v hv => ?_
    have RA := Lib.hid (RD.out.grow hv)
    have HA := Lib.hid (Ha3.out.grow hv)
    have HB := Lib.hid (Hb3.out.grow hv)
    have Kt3 := Lib.hid (Hk3.out.grow hv)
    have G := Lib.hid (Grown.trans G3.out hv)
    clear hv RD Ha3 Hb3 Hk3 G3
    refine rest_take (i := 0) rfl (by kernel_rfl) (by kernel_rfl) (by kernel_rfl) (by rfl) (fun w' hg => by go_simp; try with_reducible rfl) ?_
    try simp only [Act.put, List.setIfInBounds_toArray, List.set_cons_zero, List.set_cons_succ]
    refine rest_take (i := 1) rfl (by kernel_rfl) (by kernel_rfl) (by kernel_rfl) (by rfl) (fun w' hg => by have hcv := conv_at RA.out (macL_len k T) 64 w' hg; rw [← HSD.out] at hcv; go_simp; try with_reducible rfl) ?_
    try simp only [Act.put, List.setIfInBounds_toArray, List.set_cons_zero, List.set_cons_succ]
    refine rest_take (i := 2) rfl (by kernel_rfl) (by kernel_rfl) (by kernel_rfl) (by rfl) (fun w' hg => by go_simp; try with_reducible rfl) ?_
    try simp only [Act.put, List.setIfInBounds_toArray, List.set_cons_zero, List.set_cons_succ]
    refine rest_take (i := 3) rfl (by kernel_rfl) (by kernel_rfl) (by kernel_rfl) (by rfl) (fun w' hg => by go_simp; try with_reducible rfl) ?_
    try simp only [Act.put, List.setIfInBounds_toArray, List.set_cons_zero, List.set_cons_succ]
    refine rest_lone (i := 4) rfl (by kernel_rfl) (by rfl) (fun K hK => ?_)
    go_simp
    refine (refExtract_any A n c k B m d T _ HA.out Hn.out (by omega) HB.out Hm.out (by omega)).mono ?_
    rintro e v1 ⟨rfl, hb⟩
    rw [← HSD.out]
    refine hK.out _ _ hb ?_
    clear hK K
    replace HA := Lib.hid (HA.out.grow hb)
    replace HB := Lib.hid (HB.out.grow hb)
    replace Kt3 := Lib.hid (Kt3.out.grow hb)
    replace G := Lib.hid (Grown.trans G.out hb)
    clear hb RA
    try simp only [Act.put, List.setIfInBounds_toArray, List.set_cons_zero, List.set_cons_succ]
    refine rest_take (i := 5) rfl (by kernel_rfl) (by kernel_rfl) (by kernel_rfl) (by rfl) (fun w' hg => by go_simp; try with_reducible rfl) ?_
    try simp only [Act.put, List.setIfInBounds_toArray, List.set_cons_zero, List.set_cons_succ]
    refine rest_done (by kernel_rfl) ?_
    have hcvK := conv_at HA.out Hn.out c v1 (Grown.refl _)
    rw [← HSK.out] at hcvK
  · go_wp2_with fail
    refine (expand_no B m d SK N _ (by omega)).mono ?_
    rintro e w4 ⟨rfl, hb4⟩
    have G4 := Lib.hid (Grown.trans G.out hb4)
    clear hb4 HA HB Kt3 G hcvK
    go_wp2
    go_ret
    exact ⟨rfl, G4.out⟩
  · go_wp2_with fail
    refine (expand_no B m d SK N _ (by omega)).mono ?_
    rintro e w4 ⟨rfl, hb4⟩
    have G4 := Lib.hid (Grown.trans G.out hb4)
    clear hb4 HA HB Kt3 G hcvK
    go_wp2
    go_ret
    exact ⟨rfl, G4.out⟩
  · go_wp2_with fail
    refine (expand_any B m d T k SK n M _ Kt3.out HB.out Hm.out hd (by omega) HSK.out Hn.out (by omega) (by omega)).mono ?_
    rintro e w4 ⟨A4, rfl, hr4, hb4⟩
    have R4 := Lib.hid hr4
    have HA4 := Lib.hid (HA.out.grow hb4)
    have HB4 := Lib.hid (HB.out.grow hb4)
    have G4 := Lib.hid (Grown.trans G.out hb4)
    clear hr4 hb4 HA HB Kt3 G hcvK
    obtain ⟨SP, hSP⟩ : ∃ S : ByteArray, S = ⟨(exL T k M).toArray⟩ := ⟨_, rfl⟩
    have HSP := Lib.hid hSP
    clear hSP
    go_wp2
    try simp only [Act.put]
    refine rest_start (by kernel_rfl) fun v hv => ?_
    have RA := Lib.hid (R4.out.grow hv)
    have HA := Lib.hid (HA4.out.grow hv)
    have HB := Lib.hid (HB4.out.grow hv)
    have G := Lib.hid (Grown.trans G4.out hv)
    clear hv R4 HA4 HB4 G4
    refine rest_take (i := 0) rfl (by kernel_rfl) (by kernel_rfl) (by kernel_rfl) (by rfl) (fun w' hg => by go_simp; try with_reducible rfl) ?_
    try simp only [Act.put, List.setIfInBounds_toArray, List.set_cons_zero, List.set_cons_succ]
    refine rest_take (i := 1) rfl (by kernel_rfl) (by kernel_rfl) (by kernel_rfl) (by rfl) (fun w' hg => by go_simp; try with_reducible rfl) ?_
    try simp only [Act.put, List.setIfInBounds_toArray, List.set_cons_zero, List.set_cons_succ]
    refine rest_take (i := 2) rfl (by kernel_rfl) (by kernel_rfl) (by kernel_rfl) (by rfl) (fun w' hg => by go_simp; try with_reducible rfl) ?_
    try simp only [Act.put, List.setIfInBounds_toArray, List.set_cons_zero, List.set_cons_succ]
    refine rest_take (i := 3) rfl (by kernel_rfl) (by kernel_rfl) (by kernel_rfl) (by rfl) (fun w' hg => by have hcv := conv_at RA.out (exL_len T k M) M w' hg; rw [← HSP.out] at hcv; go_simp; try with_reducible rfl) ?_
    try simp only [Act.put, List.setIfInBounds_toArray, List.set_cons_zero, List.set_cons_succ]
    refine rest_take (i := 4) rfl (by kernel_rfl) (by kernel_rfl) (by kernel_rfl) (by rfl) (fun w' hg => by go_simp; try with_reducible rfl) ?_
    try simp only [Act.put, List.setIfInBounds_toArray, List.set_cons_zero, List.set_cons_succ]
    refine rest_take (i := 5) rfl (by kernel_rfl) (by kernel_rfl) (by kernel_rfl) (by rfl) (fun w' hg => by go_simp; try with_reducible rfl) ?_
    try simp only [Act.put, List.setIfInBounds_toArray, List.set_cons_zero, List.set_cons_succ]
    refine rest_take (i := 6) rfl (by kernel_rfl) (by kernel_rfl) (by kernel_rfl) (by rfl) (fun w' hg => by have hcv := conv_at HA.out Hn.out c w' hg; rw [← HSK.out] at hcv; go_simp; try with_reducible rfl) ?_
    try simp only [Act.put, List.setIfInBounds_toArray, List.set_cons_zero, List.set_cons_succ]
    refine rest_take (i := 7) rfl (by kernel_rfl) (by kernel_rfl) (by kernel_rfl) (by rfl) (fun w' hg => by go_simp; try with_reducible rfl) ?_
    try simp only [Act.put, List.setIfInBounds_toArray, List.set_cons_zero, List.set_cons_succ]
    refine rest_lone (i := 8) rfl (by kernel_rfl) (by rfl) (fun K hK => ?_)
    go_simp
    refine (refExpand_any B m d T k SK n M _ HB.out Hm.out (by omega) HSK.out Hn.out (by omega) (by omega)).mono ?_
    rintro e v2 ⟨rfl, hb⟩
    rw [← HSP.out]
    refine hK.out _ _ hb ?_
    clear hK K
    replace G := Lib.hid (Grown.trans G.out hb)
    clear hb RA HA HB
    try simp only [Act.put, List.setIfInBounds_toArray, List.set_cons_zero, List.set_cons_succ]
    refine rest_take (i := 9) rfl (by kernel_rfl) (by kernel_rfl) (by kernel_rfl) (by rfl) (fun w' hg => by go_simp; try with_reducible rfl) ?_
    try simp only [Act.put, List.setIfInBounds_toArray, List.set_cons_zero, List.set_cons_succ]
    refine rest_take (i := 10) rfl (by kernel_rfl) (by kernel_rfl) (by kernel_rfl) (by rfl) (fun w' hg => by go_simp; try with_reducible rfl) ?_
    try simp only [Act.put, List.setIfInBounds_toArray, List.set_cons_zero, List.set_cons_succ]
    refine rest_take (i := 11) rfl (by kernel_rfl) (by kernel_rfl) (by kernel_rfl) (by rfl) (fun w' hg => by go_simp; try with_reducible rfl) ?_
    try simp only [Act.put, List.setIfInBounds_toArray, List.set_cons_zero, List.set_cons_succ]
    refine rest_done (by kernel_rfl) ?_
    go_wp2
    go_ret
    exact ⟨rfl, G.out⟩
end Go.Proofs.YtbofikghcoalbaaDoor.S6
