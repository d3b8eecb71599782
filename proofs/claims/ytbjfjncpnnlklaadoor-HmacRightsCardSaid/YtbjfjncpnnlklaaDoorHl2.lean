/-
  The walk of HmacRights.
-/
import Derived.Test.YtbjfjncpnnlklaaDoorHl4
namespace Go.Proofs.YtbjfjncpnnlklaaDoor.S5
open Go.RowKit
open S4 (Kt sum_any digest sumV arr arr_size arr_one digest_len infoA rdL_one rd_block u64D)
set_option linter.unusedVariables false
set_option linter.unusedSimpArgs false

theorem right_oneA {w : World} {A : Option Addr} {k tg : List UInt8} {n c : Nat} {B : Option Addr} {p : List UInt8} {m d : Nat} (hk : Kt w) (h : Rd w w.heap.size A k) (hn : k.length = n) (hc : n ≤ c) (hl : n ≤ 40000) (ht : tg.length = 32) (h2 : Rd w w.heap.size B p) (hm : p.length = m) (hd : m ≤ d) (hl2 : m ≤ 40000) (fr : Nat × Nat) :
    Calls Tryd.prog 12 #[.slice A n c, .agg (arr tg), .slice (some ⟨w.heap.size, 0, none⟩) 1 1] (w.alloc (.cells #[.slice B m d] 22 fr)) (Says (w.alloc (.cells #[.slice B m d] 22 fr)) (decide (tagL k p = tg))) := by
  have hf : [p].flatten = p := by simp
  refine (right_any A n c k tg (some ⟨w.heap.size, 0, none⟩) 1 1 [p] _ (hk.grow (alloc_below w _)) (h.grow (alloc_below w _)) hn hc hl ht (rdL_one h2 hm hd fr) rfl (by omega) (by rw [hf, hm]; omega)).mono ?_
  rintro e w' ⟨rfl, hb⟩
  exact ⟨by rw [hf], hb⟩

set_option maxHeartbeats 4000000 in
theorem rights_walk (A : Option Addr) (n c : Nat) (k : List UInt8) (B : Option Addr) (m d : Nat) (T : List UInt8) (tg : List UInt8) (w : World) (hkt : Kt w) (h : Rd w w.heap.size A k) (hn : k.length = n) (hc : n ≤ c) (hnm : n ≤ 9223372036854775807)
    (h2 : Rd w w.heap.size B T) (hm : T.length = m) (hd : m ≤ d) (hmm : m ≤ 9223372036854775807) (ht : tg.length = 32) :
    Calls Tryd.prog 4 #[.slice A n c, .slice B m d, .agg (arr tg)] w (Says w true) := by
  have H := Lib.hid h
  have Hn := Lib.hid hn
  have H2 := Lib.hid h2
  have Hm := Lib.hid hm
  have Hkt := Lib.hid hkt
  have Ht := Lib.hid ht
  obtain ⟨G, hG⟩ : ∃ G, G = arr tg := ⟨_, rfl⟩
  rw [← hG]
  have HG := Lib.hid hG
  have HGs := Lib.hid (show G.size = 32 by rw [hG, arr_size, ht])
  clear h hn h2 hm hkt ht hG
  go_enter Tryd.func4, Tryd.ntmps4
  go_wp2_with fail
  have hg0 : Grown w (w.alloc (.cells G 28)) := alloc_below w _
  have hz0 := heap_alloc_new w (.cells G 28)
  refine (awake _ (Hkt.out.grow hg0)).mono ?_
  rintro e w1 ⟨rfl, hb1⟩
  have hb := Grown.trans hg0 hb1
  have HZ1 := Lib.hid ((Below.block hb1 _ (lt_of_heap hz0)).trans hz0)
  have Hkt1 := Lib.hid (Hkt.out.grow hb)
  have Hb1 := Lib.hid (show Grown w w1 from hb)
  have H1 := Lib.hid (H.out.grow hb)
  have H21 := Lib.hid (H2.out.grow hb)
  clear hb hb1 H H2 Hkt hg0 hz0
  by_cases ha : 300 < n
  · go_wp2_with fail
    refine (awake_twice w _ Hb1.out Hkt1.out).mono ?_
    rintro e w2 ⟨rfl, hb2⟩
    have Hb2 := Lib.hid hb2
    clear hb2
    go_wp2
    go_ret
    exact ⟨rfl, Hb2.out⟩
  by_cases hcc : 300 < m
  · go_wp2_with fail
    refine (awake_twice w _ Hb1.out Hkt1.out).mono ?_
    rintro e w2 ⟨rfl, hb2⟩
    have Hb2 := Lib.hid hb2
    clear hb2
    go_wp2
    go_ret
    exact ⟨rfl, Hb2.out⟩
  go_wp2_with fail
  obtain ⟨E, hE⟩ : ∃ E, E = arr (tagL k T) := ⟨_, rfl⟩
  refine (tag_one Hkt1.out H1.out Hn.out hc (by omega) H21.out Hm.out hd (by omega) (0, 0)).mono ?_
  rintro e w2 ⟨rfl, hb2⟩
  rw [← hE]
  have HE := Lib.hid hE
  have HZ2 := Lib.hid ((Below.block hb2 _ (lt_of_heap HZ1.out)).trans HZ1.out)
  have Hkt2 := Lib.hid (Hkt1.out.grow hb2)
  have Hb2 := Lib.hid (Grown.trans Hb1.out hb2)
  have H2 := Lib.hid (H1.out.grow hb2)
  have H22 := Lib.hid (H21.out.grow hb2)
  have HEs := Lib.hid (show E.size = 32 by rw [hE, arr_size, tagL_len])
  clear hE hb2 HZ1 Hkt1 Hb1 H1 H21
  go_wp2_with (first
    | (refine wpList_store_last rfl 28 (.tmp 7) (.tmp 24) rfl rfl rfl (by rw [HEs.out]; exact infoT) (by rw [HEs.out]; rfl) (by rw [HE.out]; exact arr_one _) ?_))
  have hg3 := alloc_below w2 (.cells E 28)
  have HTa := Lib.hid (heap_alloc_new w2 (.cells E 28))
  have HZa := Lib.hid ((Below.block hg3 _ (lt_of_heap HZ2.out)).trans HZ2.out)
  have KTa := Lib.hid (Hkt2.out.grow hg3)
  have GRa := Lib.hid (Grown.trans Hb2.out hg3)
  have HAa := Lib.hid (H2.out.grow hg3)
  have HBa := Lib.hid (H22.out.grow hg3)
  have SGa := Lib.hid (show Rd (w2.alloc (.cells E 28)) (w2.alloc (.cells E 28)).heap.size (some ⟨w.heap.size, 0, none⟩) tg by
    have := HZa.out
    rw [HG.out] at this
    exact rd_block (t := 28) this (lt_of_heap HZa.out))
  have HiE := Lib.hid (show (Tryd.prog.info? 28).map (·.size) = some E.size by rw [HEs.out]; exact infoT)
  have HiG := Lib.hid (show (Tryd.prog.info? 28).map (·.size) = some G.size by rw [HGs.out]; exact infoT)
  generalize w2.alloc _ = w3 at *
  generalize w2.heap.size = g2 at *
  obtain ⟨S1, hS1⟩ : ∃ S : ByteArray, S = ⟨tg.toArray⟩ := ⟨_, rfl⟩
  have HS1 := Lib.hid hS1
  clear hg3 HZ2 Hkt2 Hb2 H2 H22
  try simp only [Act.put]
  by_cases heq : tagL k T = tg
  · have HS2 := Lib.hid (show S1 = ⟨(tagL k T).toArray⟩ by rw [heq]; exact hS1)
    have Hdec := Lib.hid (show decide (tagL k T = tg) = true by simp [heq])
    clear hS1 heq
    refine rest_start (by kernel_rfl) fun v hv => ?_
    have HAb := Lib.hid (HAa.out.grow hv)
    have HBb := Lib.hid (HBa.out.grow hv)
    have SGb := Lib.hid (SGa.out.grow hv)
    have KTb := Lib.hid (KTa.out.grow hv)
    have GRb := Lib.hid (Grown.trans GRa.out hv)
    have HZb := Lib.hid ((Below.block hv _ (lt_of_heap HZa.out)).trans HZa.out)
    have HTb := Lib.hid ((Below.block hv _ (lt_of_heap HTa.out)).trans HTa.out)
    clear HAa HBa SGa KTa GRa HZa HTa hv
    refine rest_take (i := 0) rfl (by kernel_rfl) (by kernel_rfl) (by kernel_rfl) (by rfl) (fun w' hg => by go_simp; try with_reducible rfl) ?_
    try simp only [Act.put, List.setIfInBounds_toArray, List.set_cons_zero, List.set_cons_succ]
    refine rest_take (i := 1) rfl (by kernel_rfl) (by kernel_rfl) (by kernel_rfl) (by rfl) (fun w' hg => exec_load_row 28 (.tmp 7) _ rfl ((hg.block _ (lt_of_heap HTb.out)).trans HTb.out) u32B rfl HiE.out) ?_
    try simp only [Act.put, List.setIfInBounds_toArray, List.set_cons_zero, List.set_cons_succ]
    refine rest_take (i := 2) rfl (by kernel_rfl) (by kernel_rfl) (by kernel_rfl) (by rfl) (fun w' hg => by go_simp; try with_reducible rfl) ?_
    try simp only [Act.put, List.setIfInBounds_toArray, List.set_cons_zero, List.set_cons_succ]
    refine rest_lone (i := 3) rfl (by kernel_rfl) (by rfl) (fun K hK => ?_)
    go_simp
    refine hK.out _ _ (alloc_below _ _) ?_
    clear hK K
    try simp only [Act.put, List.setIfInBounds_toArray, List.set_cons_zero, List.set_cons_succ]
    refine rest_lone (i := 4) rfl (by kernel_rfl) (by rfl) (fun K hK => ?_)
    go_simp
    rw [HE.out]
    refine (right_oneA (tg := tagL k T) KTb.out HAb.out Hn.out hc (by omega) (tagL_len _ _) HBb.out Hm.out hd (by omega) (0, 0)).mono ?_
    rintro e w4 ⟨rfl, hb4⟩
    rw [show decide (tagL k T = tagL k T) = true by simp, ← HE.out]
    refine hK.out _ _ hb4 ?_
    replace hb4 := Grown.trans (alloc_below v _) hb4
    clear hK K
    have HAc := Lib.hid (HAb.out.grow hb4)
    have HBc := Lib.hid (HBb.out.grow hb4)
    have SGc := Lib.hid (SGb.out.grow hb4)
    have KTc := Lib.hid (KTb.out.grow hb4)
    have GRc := Lib.hid (Grown.trans GRb.out hb4)
    have HZc := Lib.hid ((Below.block hb4 _ (lt_of_heap HZb.out)).trans HZb.out)
    have HTc := Lib.hid ((Below.block hb4 _ (lt_of_heap HTb.out)).trans HTb.out)
    clear HAb HBb SGb KTb GRb HZb HTb hb4
    try simp only [Act.put, List.setIfInBounds_toArray, List.set_cons_zero, List.set_cons_succ]
    refine rest_take (i := 5) rfl (by kernel_rfl) (by kernel_rfl) (by kernel_rfl) (by rfl) (fun w' hg => by go_simp; try with_reducible rfl) ?_
    try simp only [Act.put, List.setIfInBounds_toArray, List.set_cons_zero, List.set_cons_succ]
    refine rest_take (i := 6) rfl (by kernel_rfl) (by kernel_rfl) (by kernel_rfl) (by rfl) (fun w' hg => by go_simp; try with_reducible rfl) ?_
    try simp only [Act.put, List.setIfInBounds_toArray, List.set_cons_zero, List.set_cons_succ]
    refine rest_take (i := 7) rfl (by kernel_rfl) (by kernel_rfl) (by kernel_rfl) (by rfl) (fun w' hg => exec_load_row 28 (.tmp 5) _ rfl ((hg.block _ (lt_of_heap HZc.out)).trans HZc.out) u32B rfl HiG.out) ?_
    try simp only [Act.put, List.setIfInBounds_toArray, List.set_cons_zero, List.set_cons_succ]
    refine rest_take (i := 8) rfl (by kernel_rfl) (by kernel_rfl) (by kernel_rfl) (by rfl) (fun w' hg => by go_simp; try with_reducible rfl) ?_
    try simp only [Act.put, List.setIfInBounds_toArray, List.set_cons_zero, List.set_cons_succ]
    refine rest_take (i := 11) rfl (by kernel_rfl) (by kernel_rfl) (by kernel_rfl) (by rfl) (fun w' hg => by go_simp; try with_reducible rfl) ?_
    try simp only [Act.put, List.setIfInBounds_toArray, List.set_cons_zero, List.set_cons_succ]
    refine rest_take (i := 12) rfl (by kernel_rfl) (by kernel_rfl) (by kernel_rfl) (by rfl) (fun w' hg => by have hcv := conv_at SGc.out Ht.out 32 w' hg; rw [← HS1.out] at hcv; go_simp; try with_reducible rfl) ?_
    try simp only [Act.put, List.setIfInBounds_toArray, List.set_cons_zero, List.set_cons_succ]
    refine rest_take (i := 13) rfl (by kernel_rfl) (by kernel_rfl) (by kernel_rfl) (by rfl) (fun w' hg => by go_simp; try with_reducible rfl) ?_
    try simp only [Act.put, List.setIfInBounds_toArray, List.set_cons_zero, List.set_cons_succ]
    refine rest_take (i := 14) rfl (by kernel_rfl) (by kernel_rfl) (by kernel_rfl) (by rfl) (fun w' hg => by go_simp; try with_reducible rfl) ?_
    try simp only [Act.put, List.setIfInBounds_toArray, List.set_cons_zero, List.set_cons_succ]
    refine rest_lone (i := 9) rfl (by kernel_rfl) (by rfl) (fun K hK => ?_)
    go_simp
    refine hK.out _ _ (alloc_below _ _) ?_
    clear hK K
    try simp only [Act.put, List.setIfInBounds_toArray, List.set_cons_zero, List.set_cons_succ]
    refine rest_lone (i := 10) rfl (by kernel_rfl) (by rfl) (fun K hK => ?_)
    go_simp
    rw [HG.out]
    refine (right_oneA (tg := tg) KTc.out HAc.out Hn.out hc (by omega) Ht.out HBc.out Hm.out hd (by omega) (0, 0)).mono ?_
    rintro e w5 ⟨rfl, hb5⟩
    rw [Hdec.out, ← HG.out]
    refine hK.out _ _ hb5 ?_
    replace hb5 := Grown.trans (alloc_below w4 _) hb5
    clear hK K
    have HAd := Lib.hid (HAc.out.grow hb5)
    have HBd := Lib.hid (HBc.out.grow hb5)
    have SGd := Lib.hid (SGc.out.grow hb5)
    have KTd := Lib.hid (KTc.out.grow hb5)
    have GRd := Lib.hid (Grown.trans GRc.out hb5)
    have HZd := Lib.hid ((Below.block hb5 _ (lt_of_heap HZc.out)).trans HZc.out)
    have HTd := Lib.hid ((Below.block hb5 _ (lt_of_heap HTc.out)).trans HTc.out)
    clear HAc HBc SGc KTc GRc HZc HTc hb5
    try simp only [Act.put, List.setIfInBounds_toArray, List.set_cons_zero, List.set_cons_succ]
    refine rest_lone (i := 15) rfl (by kernel_rfl) (by rfl) (fun K hK => ?_)
    go_simp
    refine (refTag_any A n c k B m d T _ HAd.out Hn.out (by omega) HBd.out Hm.out (by omega)).mono ?_
    rintro e w6 ⟨rfl, hb6⟩
    rw [← HS2.out]
    refine hK.out _ _ hb6 ?_
    clear hK K
    have GRe := Lib.hid (Grown.trans GRd.out hb6)
    clear hb6
    try simp only [Act.put, List.setIfInBounds_toArray, List.set_cons_zero, List.set_cons_succ]
    refine rest_take (i := 16) rfl (by kernel_rfl) (by kernel_rfl) (by kernel_rfl) (by rfl) (fun w' hg => by go_simp; try with_reducible rfl) ?_
    try simp only [Act.put, List.setIfInBounds_toArray, List.set_cons_zero, List.set_cons_succ]
    refine rest_take (i := 17) rfl (by kernel_rfl) (by kernel_rfl) (by kernel_rfl) (by rfl) (fun w' hg => by go_simp; try with_reducible rfl) ?_
    try simp only [Act.put, List.setIfInBounds_toArray, List.set_cons_zero, List.set_cons_succ]
    refine rest_take (i := 18) rfl (by kernel_rfl) (by kernel_rfl) (by kernel_rfl) (by rfl) (fun w' hg => by go_simp; try with_reducible rfl) ?_
    try simp only [Act.put, List.setIfInBounds_toArray, List.set_cons_zero, List.set_cons_succ]
    refine rest_take (i := 19) rfl (by kernel_rfl) (by kernel_rfl) (by kernel_rfl) (by rfl) (fun w' hg => by go_simp; try with_reducible rfl) ?_
    try simp only [Act.put, List.setIfInBounds_toArray, List.set_cons_zero, List.set_cons_succ]
    refine rest_done (by kernel_rfl) ?_
    go_wp2
    go_ret
    exact ⟨rfl, GRe.out⟩
  · obtain ⟨S2, hS2⟩ : ∃ S : ByteArray, S = ⟨(tagL k T).toArray⟩ := ⟨_, rfl⟩
    have HS2 := Lib.hid hS2
    have Hdec := Lib.hid (show decide (tagL k T = tg) = false by simp [heq])
    have hne : (S1.toList == S2.toList) = false := by
      rw [hS1, hS2]
      simp only [ByteArray.toList_mk]
      exact beq_eq_false_iff_ne.2 fun e => heq e.symm
    clear hS1 hS2 heq
    refine rest_start (by kernel_rfl) fun v hv => ?_
    have HAb := Lib.hid (HAa.out.grow hv)
    have HBb := Lib.hid (HBa.out.grow hv)
    have SGb := Lib.hid (SGa.out.grow hv)
    have KTb := Lib.hid (KTa.out.grow hv)
    have GRb := Lib.hid (Grown.trans GRa.out hv)
    have HZb := Lib.hid ((Below.block hv _ (lt_of_heap HZa.out)).trans HZa.out)
    have HTb := Lib.hid ((Below.block hv _ (lt_of_heap HTa.out)).trans HTa.out)
    clear HAa HBa SGa KTa GRa HZa HTa hv
    refine rest_take (i := 0) rfl (by kernel_rfl) (by kernel_rfl) (by kernel_rfl) (by rfl) (fun w' hg => by go_simp; try with_reducible rfl) ?_
    try simp only [Act.put, List.setIfInBounds_toArray, List.set_cons_zero, List.set_cons_succ]
    refine rest_take (i := 1) rfl (by kernel_rfl) (by kernel_rfl) (by kernel_rfl) (by rfl) (fun w' hg => exec_load_row 28 (.tmp 7) _ rfl ((hg.block _ (lt_of_heap HTb.out)).trans HTb.out) u32B rfl HiE.out) ?_
    try simp only [Act.put, List.setIfInBounds_toArray, List.set_cons_zero, List.set_cons_succ]
    refine rest_take (i := 2) rfl (by kernel_rfl) (by kernel_rfl) (by kernel_rfl) (by rfl) (fun w' hg => by go_simp; try with_reducible rfl) ?_
    try simp only [Act.put, List.setIfInBounds_toArray, List.set_cons_zero, List.set_cons_succ]
    refine rest_lone (i := 3) rfl (by kernel_rfl) (by rfl) (fun K hK => ?_)
    go_simp
    refine hK.out _ _ (alloc_below _ _) ?_
    clear hK K
    try simp only [Act.put, List.setIfInBounds_toArray, List.set_cons_zero, List.set_cons_succ]
    refine rest_lone (i := 4) rfl (by kernel_rfl) (by rfl) (fun K hK => ?_)
    go_simp
    rw [HE.out]
    refine (right_oneA (tg := tagL k T) KTb.out HAb.out Hn.out hc (by omega) (tagL_len _ _) HBb.out Hm.out hd (by omega) (0, 0)).mono ?_
    rintro e w4 ⟨rfl, hb4⟩
    rw [show decide (tagL k T = tagL k T) = true by simp, ← HE.out]
    refine hK.out _ _ hb4 ?_
    replace hb4 := Grown.trans (alloc_below v _) hb4
    clear hK K
    have HAc := Lib.hid (HAb.out.grow hb4)
    have HBc := Lib.hid (HBb.out.grow hb4)
    have SGc := Lib.hid (SGb.out.grow hb4)
    have KTc := Lib.hid (KTb.out.grow hb4)
    have GRc := Lib.hid (Grown.trans GRb.out hb4)
    have HZc := Lib.hid ((Below.block hb4 _ (lt_of_heap HZb.out)).trans HZb.out)
    have HTc := Lib.hid ((Below.block hb4 _ (lt_of_heap HTb.out)).trans HTb.out)
    clear HAb HBb SGb KTb GRb HZb HTb hb4
    try simp only [Act.put, List.setIfInBounds_toArray, List.set_cons_zero, List.set_cons_succ]
    refine rest_take (i := 5) rfl (by kernel_rfl) (by kernel_rfl) (by kernel_rfl) (by rfl) (fun w' hg => by go_simp; try with_reducible rfl) ?_
    try simp only [Act.put, List.setIfInBounds_toArray, List.set_cons_zero, List.set_cons_succ]
    refine rest_take (i := 6) rfl (by kernel_rfl) (by kernel_rfl) (by kernel_rfl) (by rfl) (fun w' hg => by go_simp; try with_reducible rfl) ?_
    try simp only [Act.put, List.setIfInBounds_toArray, List.set_cons_zero, List.set_cons_succ]
    refine rest_take (i := 7) rfl (by kernel_rfl) (by kernel_rfl) (by kernel_rfl) (by rfl) (fun w' hg => exec_load_row 28 (.tmp 5) _ rfl ((hg.block _ (lt_of_heap HZc.out)).trans HZc.out) u32B rfl HiG.out) ?_
    try simp only [Act.put, List.setIfInBounds_toArray, List.set_cons_zero, List.set_cons_succ]
    refine rest_take (i := 8) rfl (by kernel_rfl) (by kernel_rfl) (by kernel_rfl) (by rfl) (fun w' hg => by go_simp; try with_reducible rfl) ?_
    try simp only [Act.put, List.setIfInBounds_toArray, List.set_cons_zero, List.set_cons_succ]
    refine rest_take (i := 11) rfl (by kernel_rfl) (by kernel_rfl) (by kernel_rfl) (by rfl) (fun w' hg => by go_simp; try with_reducible rfl) ?_
    try simp only [Act.put, List.setIfInBounds_toArray, List.set_cons_zero, List.set_cons_succ]
    refine rest_take (i := 12) rfl (by kernel_rfl) (by kernel_rfl) (by kernel_rfl) (by rfl) (fun w' hg => by have hcv := conv_at SGc.out Ht.out 32 w' hg; rw [← HS1.out] at hcv; go_simp; try with_reducible rfl) ?_
    try simp only [Act.put, List.setIfInBounds_toArray, List.set_cons_zero, List.set_cons_succ]
    refine rest_take (i := 13) rfl (by kernel_rfl) (by kernel_rfl) (by kernel_rfl) (by rfl) (fun w' hg => by go_simp; try with_reducible rfl) ?_
    try simp only [Act.put, List.setIfInBounds_toArray, List.set_cons_zero, List.set_cons_succ]
    refine rest_take (i := 14) rfl (by kernel_rfl) (by kernel_rfl) (by kernel_rfl) (by rfl) (fun w' hg => by go_simp; try with_reducible rfl) ?_
    try simp only [Act.put, List.setIfInBounds_toArray, List.set_cons_zero, List.set_cons_succ]
    refine rest_lone (i := 9) rfl (by kernel_rfl) (by rfl) (fun K hK => ?_)
    go_simp
    refine hK.out _ _ (alloc_below _ _) ?_
    clear hK K
    try simp only [Act.put, List.setIfInBounds_toArray, List.set_cons_zero, List.set_cons_succ]
    refine rest_lone (i := 10) rfl (by kernel_rfl) (by rfl) (fun K hK => ?_)
    go_simp
    rw [HG.out]
    refine (right_oneA (tg := tg) KTc.out HAc.out Hn.out hc (by omega) Ht.out HBc.out Hm.out hd (by omega) (0, 0)).mono ?_
    rintro e w5 ⟨rfl, hb5⟩
    rw [Hdec.out, ← HG.out]
    refine hK.out _ _ hb5 ?_
    replace hb5 := Grown.trans (alloc_below w4 _) hb5
    clear hK K
    have HAd := Lib.hid (HAc.out.grow hb5)
    have HBd := Lib.hid (HBc.out.grow hb5)
    have SGd := Lib.hid (SGc.out.grow hb5)
    have KTd := Lib.hid (KTc.out.grow hb5)
    have GRd := Lib.hid (Grown.trans GRc.out hb5)
    have HZd := Lib.hid ((Below.block hb5 _ (lt_of_heap HZc.out)).trans HZc.out)
    have HTd := Lib.hid ((Below.block hb5 _ (lt_of_heap HTc.out)).trans HTc.out)
    clear HAc HBc SGc KTc GRc HZc HTc hb5
    try simp only [Act.put, List.setIfInBounds_toArray, List.set_cons_zero, List.set_cons_succ]
    refine rest_lone (i := 15) rfl (by kernel_rfl) (by rfl) (fun K hK => ?_)
    go_simp
    refine (refTag_any A n c k B m d T _ HAd.out Hn.out (by omega) HBd.out Hm.out (by omega)).mono ?_
    rintro e w6 ⟨rfl, hb6⟩
    rw [← HS2.out]
    refine hK.out _ _ hb6 ?_
    clear hK K
    have GRe := Lib.hid (Grown.trans GRd.out hb6)
    clear hb6
    try simp only [Act.put, List.setIfInBounds_toArray, List.set_cons_zero, List.set_cons_succ]
    refine rest_take (i := 16) rfl (by kernel_rfl) (by kernel_rfl) (by kernel_rfl) (by rfl) (fun w' hg => by go_simp; try with_reducible rfl) ?_
    try simp only [Act.put, List.setIfInBounds_toArray, List.set_cons_zero, List.set_cons_succ]
    refine rest_take (i := 17) rfl (by kernel_rfl) (by kernel_rfl) (by kernel_rfl) (by rfl) (fun w' hg => by go_simp; try with_reducible rfl) ?_
    try simp only [Act.put, List.setIfInBounds_toArray, List.set_cons_zero, List.set_cons_succ]
    refine rest_take (i := 18) rfl (by kernel_rfl) (by kernel_rfl) (by kernel_rfl) (by rfl) (fun w' hg => by go_simp; try with_reducible rfl) ?_
    try simp only [Act.put, List.setIfInBounds_toArray, List.set_cons_zero, List.set_cons_succ]
    refine rest_take (i := 19) rfl (by kernel_rfl) (by kernel_rfl) (by kernel_rfl) (by rfl) (fun w' hg => by go_simp; try with_reducible rfl) ?_
    try simp only [Act.put, List.setIfInBounds_toArray, List.set_cons_zero, List.set_cons_succ]
    refine rest_done (by kernel_rfl) ?_
    go_wp2
    go_ret
    exact ⟨rfl, GRe.out⟩
end Go.Proofs.YtbjfjncpnnlklaaDoor.S5
