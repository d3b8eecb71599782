/-
  The walk of HmacSums.
-/
import Derived.Test.YtbjfjncpnnlklaaDoorHl4
import Derived.Test.YtbjfjncpnnlklaaDoorAll
namespace Go.Proofs.YtbjfjncpnnlklaaDoor.S5
open Go.RowKit
open S4 (Kt sum_any digest sumV arr arr_size arr_one digest_len infoA rdL_one rd_block u64D)
set_option linter.unusedVariables false
set_option linter.unusedSimpArgs false

theorem flat_len (ls : List (List UInt8)) (h : ∀ k, k < ls.length → (ls.getD k []).length ≤ 200) : ls.flatten.length ≤ 200 * ls.length := by
  induction ls with
  | nil => simp
  | cons a ls ih =>
    have h0 := h 0 (by simp)
    have h1 := ih (fun k hk => by have := h (k + 1) (by simp; omega); simpa using this)
    simp only [List.flatten_cons, List.length_append, List.length_cons]
    simp at h0
    omega

set_option maxHeartbeats 4000000 in
theorem sums_walk (A : Option Addr) (n c : Nat) (k : List UInt8) (B : Option Addr) (m d : Nat) (ls : List (List UInt8)) (w : World) (hkt : Kt w) (h : Rd w w.heap.size A k) (hn : k.length = n) (hc : n ≤ c) (hnm : n ≤ 9223372036854775807)
    (h2 : RdL w w.heap.size B ls) (hm : ls.length = m) (hmm : m ≤ 9223372036854775807) (hp : ∀ j, j < ls.length → (ls.getD j []).length ≤ 9223372036854775807) :
    Calls Tryd.prog 3 #[.slice A n c, .slice B m d] w (Says w true) := by
  have H := Lib.hid h
  have Hn := Lib.hid hn
  have H2 := Lib.hid h2
  have Hm := Lib.hid hm
  have Hkt := Lib.hid hkt
  have Hp := Lib.hid hp
  clear h hn h2 hm hkt hp
  go_enter Tryd.func3, Tryd.ntmps3
  go_wp2_with fail
  refine (awake _ Hkt.out).mono ?_
  rintro e w1 ⟨rfl, hb⟩
  have Hkt1 := Lib.hid (Hkt.out.grow hb)
  have Hb1 := Lib.hid (show Grown w w1 from hb)
  have H1 := Lib.hid (H.out.grow hb)
  have H21 := Lib.hid ((H2.out.keep hb).more (Below.size hb))
  clear hb H H2 Hkt
  by_cases ha : 300 < n
  · go_wp2_with fail
    refine (awake_twice w _ Hb1.out Hkt1.out).mono ?_
    rintro e w2 ⟨rfl, hb2⟩
    have Hb2 := Lib.hid hb2
    clear hb2
    go_wp2
    go_ret
    exact ⟨rfl, Hb2.out⟩
  by_cases hcc : 8 < m
  · go_wp2_with fail
    refine (awake_twice w _ Hb1.out Hkt1.out).mono ?_
    rintro e w2 ⟨rfl, hb2⟩
    have Hb2 := Lib.hid hb2
    clear hb2
    go_wp2
    go_ret
    exact ⟨rfl, Hb2.out⟩
  go_wp2
  go_loop [5] (fun i => ∃ t : Nat, t ≤ m ∧ i = .int .i64 (t : Int) ∧ Hid (∀ j, j < t → (ls.getD j []).length ≤ 200)) (fun i => m - (intOf i).toNat)
  case atStart => exact ⟨0, by omega, rfl, fun j hj => by omega⟩
  case round =>
    obtain ⟨t, ht, rfl, Ht⟩ := hrel
    by_cases hlt : t < m
    · have htl : t < ls.length := by have := Hm.out; omega
      obtain ⟨b1, o1, B1, d1, rfl, hbb, hc1, hd1, hr1⟩ := H21.out.at_ htl
      obtain ⟨q, hq⟩ : ∃ q, q = ls[t].length := ⟨_, rfl⟩
      have hg : (ls.getD t []).length = q := by rw [hq]; simp [htl]
      have hqm : q ≤ 9223372036854775807 := by rw [← hg]; exact Hp.out t htl
      rw [← hq] at hc1
      have Hg := Lib.hid hg
      clear hr1 hd1 hq hg
      by_cases h200 : q ≤ 200
      · go_wp2
        go_round
        case rel =>
          refine ⟨t + 1, by omega, by go_num, fun j hj => ?_⟩
          by_cases hjt : j = t
          · rw [hjt, Hg.out]; exact h200
          · exact Ht.out j (by omega)
        case measure => simp [intOf]; omega
      · go_wp2
        go_ret
        exact ⟨rfl, Hb1.out⟩
    · obtain rfl : m = t := by omega
      have hfl := flat_len ls (fun j hj => Ht.out j (by have := Hm.out; omega))
      have hf2 : ls.flatten.length ≤ 1600 := by have := Hm.out; omega
      obtain ⟨T, hT⟩ : ∃ T, T = ls.flatten := ⟨_, rfl⟩
      rw [← hT] at hf2
      have HT := Lib.hid hT
      obtain ⟨q, hq⟩ : ∃ q, T.length = q := ⟨_, rfl⟩
      have Hq := Lib.hid hq
      have hq2 : q ≤ 1600 := by rw [← hq]; exact hf2
      have Hf := Lib.hid (show ls.flatten.length ≤ 1600 by rw [← hT]; exact hf2)
      clear hT hq hfl hf2
      go_wp2_with fail
      refine (all_any B m d ls _ H21.out Hm.out (by omega) (by have := Hf.out; omega)).mono ?_
      rintro e w2 ⟨A2, c2, rfl, ho2, hb2⟩
      rw [← HT.out] at ho2 ⊢
      rw [Hq.out]
      have S2 := Lib.hid ho2.rd
      have hc2 : q ≤ c2 := by have := ho2.le; rw [Hq.out] at this; exact this
      have Hkt2 := Lib.hid (Hkt1.out.grow hb2)
      have Hb2 := Lib.hid (Grown.trans Hb1.out hb2)
      have H2 := Lib.hid (H1.out.grow hb2)
      have H22 := Lib.hid ((H21.out.keep hb2).more (Below.size hb2))
      clear ho2 hb2 Hkt1 Hb1 H1 H21
      go_wp2_with (first
        | (at_builtin
           refine wpList_app rfl (.tmp 37) (.tmp 38) rfl (base := w2.heap.size) (l := []) (c := 0) rfl (Own.lit w2 [] (Nat.le_refl _) (by simp)) (l2 := k) (by rw [Hn.out]; rfl) (H2.out.grow (alloc_below w2 _)) (by have := Hn.out; simp; omega) (by simp) k (by simp) ?_
           intro A3 c3 w3 ho3 hb3
           rw [Hn.out]
           have hc3 : n ≤ c3 := by have := ho3.le; rw [Hn.out] at this; exact this
           have R3 := Lib.hid ho3.rd
           have Hg3 := Lib.hid (show Grown w2 w3 from (alloc_below w2 _).trans hb3)
           clear ho3 hb3))
      have Hkt3 := Lib.hid (Hkt2.out.grow Hg3.out)
      have Hb3 := Lib.hid (Grown.trans Hb2.out Hg3.out)
      have H3 := Lib.hid (H2.out.grow Hg3.out)
      have H23 := Lib.hid ((H22.out.keep Hg3.out).more (Below.size Hg3.out))
      have S3 := Lib.hid (S2.out.grow Hg3.out)
      clear Hg3 Hkt2 Hb2 H2 H22 S2
      go_wp2_with fail
      refine (mac_any A3 n c3 k B m d ls _ Hkt3.out R3.out Hn.out hc3 (by omega) H23.out Hm.out (by omega) (by have := Hf.out; omega)).mono ?_
      rintro e w4 ⟨rfl, hb4⟩
      rw [← HT.out]
      obtain ⟨D, hD⟩ : ∃ D, D = arr (macL k T) := ⟨_, rfl⟩
      rw [← hD]
      have HD := Lib.hid hD
      have HDs := Lib.hid (show D.size = 64 by rw [hD, arr_size, macL_len])
      have Hkt4 := Lib.hid (Hkt3.out.grow hb4)
      have Hb4 := Lib.hid (Grown.trans Hb3.out hb4)
      have H4 := Lib.hid (H3.out.grow hb4)
      have R4 := Lib.hid (R3.out.grow hb4)
      have S4' := Lib.hid (S3.out.grow hb4)
      clear hb4 hD Hkt3 Hb3 H3 H23 R3 S3
      go_wp2_with fail
      refine (tag_one Hkt4.out R4.out Hn.out hc3 (by omega) S4'.out Hq.out hc2 (by omega) (0, 0)).mono ?_
      rintro e w5 ⟨rfl, hb5⟩
      obtain ⟨E, hE⟩ : ∃ E, E = arr (tagL k T) := ⟨_, rfl⟩
      rw [← hE]
      have HE := Lib.hid hE
      have HEs := Lib.hid (show E.size = 32 by rw [hE, arr_size, tagL_len])
      have Hb5 := Lib.hid (Grown.trans Hb4.out hb5)
      have H5 := Lib.hid (H4.out.grow hb5)
      have R5 := Lib.hid (R4.out.grow hb5)
      have S5' := Lib.hid (S4'.out.grow hb5)
      clear hb5 hE Hkt4 Hb4 H4 R4 S4'
      have HiD := Lib.hid (show (Tryd.prog.info? 26).map (·.size) = some D.size by rw [HDs.out]; exact infoA)
      have HiE := Lib.hid (show (Tryd.prog.info? 28).map (·.size) = some E.size by rw [HEs.out]; exact infoT)
      have HoD := Lib.hid (show D.all (·.oneCell') = true by rw [HD.out]; exact arr_one _)
      have HoE := Lib.hid (show E.all (·.oneCell') = true by rw [HE.out]; exact arr_one _)
      go_wp2_with (first
        | (refine wpList_store_prev rfl 26 (.tmp 8) (.tmp 42) rfl rfl rfl HiD.out (by rw [HDs.out]; rfl) HoD.out ?_)
        | (refine wpList_store_last rfl 28 (.tmp 9) (.tmp 46) rfl (W := w5.alloc (.cells D 26)) (by rw [show (w5.alloc (.cells D 26)).heap.size = w5.heap.size + 1 by simp]; rfl) rfl HiE.out (by rw [HEs.out]; rfl) HoE.out ?_))
      have hga := Grown.trans (alloc_below w5 (.cells D 26)) (alloc_below _ (.cells E 28))
      have SDa := Lib.hid (show Rd ((w5.alloc (.cells D 26)).alloc (.cells E 28)) ((w5.alloc (.cells D 26)).alloc (.cells E 28)).heap.size (some ⟨w5.heap.size, 0, none⟩) (macL k T) by
        rw [HD.out]
        exact rd_block (t := 26) ((Below.heap_alloc _ _ _ (by simp)).trans (heap_alloc_new w5 _)) (by simp; omega))
      have SEa := Lib.hid (show Rd ((w5.alloc (.cells D 26)).alloc (.cells E 28)) ((w5.alloc (.cells D 26)).alloc (.cells E 28)).heap.size (some ⟨w5.heap.size + 1, 0, none⟩) (tagL k T) by
        rw [HE.out]
        have := heap_alloc_new (w5.alloc (.cells D 26)) (.cells (arr (tagL k T)) 28)
        rw [show (w5.alloc (.cells D 26)).heap.size = w5.heap.size + 1 by simp] at this
        exact rd_block (t := 28) this (lt_of_heap this))
      have GRa := Lib.hid (Grown.trans Hb5.out hga)
      have HAa := Lib.hid (H5.out.grow hga)
      have HRa := Lib.hid (R5.out.grow hga)
      have HSa := Lib.hid (S5'.out.grow hga)
      generalize (w5.alloc (.cells D 26)).alloc (.cells E 28) = w6 at *
      generalize w5.heap.size = g5 at *
      obtain ⟨S1, hS1⟩ : ∃ S : ByteArray, S = ⟨(macL k T).toArray⟩ := ⟨_, rfl⟩
      have HS1 := Lib.hid hS1
      obtain ⟨S2, hS2⟩ : ∃ S : ByteArray, S = ⟨(tagL k T).toArray⟩ := ⟨_, rfl⟩
      have HS2 := Lib.hid hS2
      obtain ⟨S3, hS3⟩ : ∃ S : ByteArray, S = ⟨(k).toArray⟩ := ⟨_, rfl⟩
      have HS3 := Lib.hid hS3
      clear hga Hb5 H5 R5 S5' hS1 hS2 hS3 HiD HiE HoD HoE
      try simp only [Act.put]
      refine rest_start (by kernel_rfl) fun v hv => ?_
      have SDb := Lib.hid (SDa.out.grow hv)
      have SEb := Lib.hid (SEa.out.grow hv)
      have HAb := Lib.hid (HAa.out.grow hv)
      have HRb := Lib.hid (HRa.out.grow hv)
      have HSb := Lib.hid (HSa.out.grow hv)
      have GRb := Lib.hid (Grown.trans GRa.out hv)
      clear hv GRa SDa SEa HAa HRa HSa
      refine rest_take (i := 0) rfl (by kernel_rfl) (by kernel_rfl) (by kernel_rfl) (by rfl) (fun w' hg => by go_simp; try with_reducible rfl) ?_
      try simp only [Act.put, List.setIfInBounds_toArray, List.set_cons_zero, List.set_cons_succ]
      refine rest_take (i := 1) rfl (by kernel_rfl) (by kernel_rfl) (by kernel_rfl) (by rfl) (fun w' hg => by have hcv := conv_at SDb.out (macL_len k T) 64 w' hg; rw [← HS1.out] at hcv; go_simp; try with_reducible rfl) ?_
      try simp only [Act.put, List.setIfInBounds_toArray, List.set_cons_zero, List.set_cons_succ]
      refine rest_take (i := 2) rfl (by kernel_rfl) (by kernel_rfl) (by kernel_rfl) (by rfl) (fun w' hg => by go_simp; try with_reducible rfl) ?_
      try simp only [Act.put, List.setIfInBounds_toArray, List.set_cons_zero, List.set_cons_succ]
      refine rest_take (i := 3) rfl (by kernel_rfl) (by kernel_rfl) (by kernel_rfl) (by rfl) (fun w' hg => by go_simp; try with_reducible rfl) ?_
      try simp only [Act.put, List.setIfInBounds_toArray, List.set_cons_zero, List.set_cons_succ]
      refine rest_lone (i := 4) rfl (by kernel_rfl) (by rfl) (fun K hK => ?_)
      go_simp
      refine (refMac_any A n c k A2 q c2 T _ HAb.out Hn.out (by omega) HSb.out Hq.out (by omega)).mono ?_
      rintro e w7 ⟨rfl, hb7⟩
      rw [← HS1.out]
      refine hK.out _ _ hb7 ?_
      clear hK K
      have SDc := Lib.hid (SDb.out.grow hb7)
      have SEc := Lib.hid (SEb.out.grow hb7)
      have HAc := Lib.hid (HAb.out.grow hb7)
      have HRc := Lib.hid (HRb.out.grow hb7)
      have HSc := Lib.hid (HSb.out.grow hb7)
      have GRc := Lib.hid (Grown.trans GRb.out hb7)
      clear hb7 GRb SDb SEb HAb HRb HSb
      try simp only [Act.put, List.setIfInBounds_toArray, List.set_cons_zero, List.set_cons_succ]
      refine rest_take (i := 5) rfl (by kernel_rfl) (by kernel_rfl) (by kernel_rfl) (by rfl) (fun w' hg => by go_simp; try with_reducible rfl) ?_
      try simp only [Act.put, List.setIfInBounds_toArray, List.set_cons_zero, List.set_cons_succ]
      refine rest_take (i := 6) rfl (by kernel_rfl) (by kernel_rfl) (by kernel_rfl) (by rfl) (fun w' hg => by go_simp; try with_reducible rfl) ?_
      try simp only [Act.put, List.setIfInBounds_toArray, List.set_cons_zero, List.set_cons_succ]
      refine rest_take (i := 7) rfl (by kernel_rfl) (by kernel_rfl) (by kernel_rfl) (by rfl) (fun w' hg => by go_simp; try with_reducible rfl) ?_
      try simp only [Act.put, List.setIfInBounds_toArray, List.set_cons_zero, List.set_cons_succ]
      refine rest_take (i := 8) rfl (by kernel_rfl) (by kernel_rfl) (by kernel_rfl) (by rfl) (fun w' hg => by have hcv := conv_at SEc.out (tagL_len k T) 32 w' hg; rw [← HS2.out] at hcv; go_simp; try with_reducible rfl) ?_
      try simp only [Act.put, List.setIfInBounds_toArray, List.set_cons_zero, List.set_cons_succ]
      refine rest_take (i := 9) rfl (by kernel_rfl) (by kernel_rfl) (by kernel_rfl) (by rfl) (fun w' hg => by go_simp; try with_reducible rfl) ?_
      try simp only [Act.put, List.setIfInBounds_toArray, List.set_cons_zero, List.set_cons_succ]
      refine rest_take (i := 10) rfl (by kernel_rfl) (by kernel_rfl) (by kernel_rfl) (by rfl) (fun w' hg => by have hcv := conv_at (SDc.out.take 32) (tagL_len k T) 64 w' hg; rw [show (macL k T).take 32 = tagL k T from rfl, ← HS2.out] at hcv; go_simp; try with_reducible rfl) ?_
      try simp only [Act.put, List.setIfInBounds_toArray, List.set_cons_zero, List.set_cons_succ]
      refine rest_take (i := 11) rfl (by kernel_rfl) (by kernel_rfl) (by kernel_rfl) (by rfl) (fun w' hg => by go_simp; try with_reducible rfl) ?_
      try simp only [Act.put, List.setIfInBounds_toArray, List.set_cons_zero, List.set_cons_succ]
      refine rest_take (i := 12) rfl (by kernel_rfl) (by kernel_rfl) (by kernel_rfl) (by rfl) (fun w' hg => by go_simp; try with_reducible rfl) ?_
      try simp only [Act.put, List.setIfInBounds_toArray, List.set_cons_zero, List.set_cons_succ]
      refine rest_take (i := 13) rfl (by kernel_rfl) (by kernel_rfl) (by kernel_rfl) (by rfl) (fun w' hg => by go_simp; try with_reducible rfl) ?_
      try simp only [Act.put, List.setIfInBounds_toArray, List.set_cons_zero, List.set_cons_succ]
      refine rest_take (i := 14) rfl (by kernel_rfl) (by kernel_rfl) (by kernel_rfl) (by rfl) (fun w' hg => by go_simp; try with_reducible rfl) ?_
      try simp only [Act.put, List.setIfInBounds_toArray, List.set_cons_zero, List.set_cons_succ]
      refine rest_take (i := 15) rfl (by kernel_rfl) (by kernel_rfl) (by kernel_rfl) (by rfl) (fun w' hg => by have hcv := conv_at HRc.out Hn.out c3 w' hg; rw [← HS3.out] at hcv; go_simp; try with_reducible rfl) ?_
      try simp only [Act.put, List.setIfInBounds_toArray, List.set_cons_zero, List.set_cons_succ]
      refine rest_take (i := 16) rfl (by kernel_rfl) (by kernel_rfl) (by kernel_rfl) (by rfl) (fun w' hg => by go_simp; try with_reducible rfl) ?_
      try simp only [Act.put, List.setIfInBounds_toArray, List.set_cons_zero, List.set_cons_succ]
      refine rest_take (i := 17) rfl (by kernel_rfl) (by kernel_rfl) (by kernel_rfl) (by rfl) (fun w' hg => by have hcv := conv_at HAc.out Hn.out c w' hg; rw [← HS3.out] at hcv; go_simp; try with_reducible rfl) ?_
      try simp only [Act.put, List.setIfInBounds_toArray, List.set_cons_zero, List.set_cons_succ]
      refine rest_take (i := 18) rfl (by kernel_rfl) (by kernel_rfl) (by kernel_rfl) (by rfl) (fun w' hg => by go_simp; try with_reducible rfl) ?_
      try simp only [Act.put, List.setIfInBounds_toArray, List.set_cons_zero, List.set_cons_succ]
      refine rest_take (i := 19) rfl (by kernel_rfl) (by kernel_rfl) (by kernel_rfl) (by rfl) (fun w' hg => by go_simp; try with_reducible rfl) ?_
      try simp only [Act.put, List.setIfInBounds_toArray, List.set_cons_zero, List.set_cons_succ]
      refine rest_take (i := 20) rfl (by kernel_rfl) (by kernel_rfl) (by kernel_rfl) (by rfl) (fun w' hg => by go_simp; try with_reducible rfl) ?_
      try simp only [Act.put, List.setIfInBounds_toArray, List.set_cons_zero, List.set_cons_succ]
      refine rest_done (by kernel_rfl) ?_
      go_wp2
      go_ret
      exact ⟨rfl, GRc.out⟩
end Go.Proofs.YtbjfjncpnnlklaaDoor.S5
