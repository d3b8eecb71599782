/-
  The walk of Sha512Sums.
-/
import Derived.Test.YtbelcocgkimkbaaDoorSdAw
import Derived.Test.YtbelcocgkimkbaaDoorEqb
namespace Go.Proofs.YtbelcocgkimkbaaDoor.S4
open Go.RowKit
set_option linter.unusedVariables false
set_option linter.unusedSimpArgs false

theorem flat_len (ls : List (List UInt8)) (h : ∀ k, k < ls.length → (ls.getD k []).length ≤ 200) : ls.flatten.length ≤ 200 * ls.length := by
  induction ls with
  | nil => simp
  | cons a ls ih =>
    have h0 := h 0 (by simp)
    have h1 := ih (fun k hk => by have := h (k + 1) (by simp; omega); simpa using this)
    simp only [List.flatten_cons, List.length_append, List.length_cons]
    simp at h0
    omega

set_option maxHeartbeats 4000000 in
theorem sums_walk (A : Option Addr) (k c : Nat) (ls : List (List UInt8)) (w : World) (hkt : Kt w) (h : RdL w w.heap.size A ls) (hk : ls.length = k) (hkm : k ≤ 9223372036854775807)
    (hp : ∀ j, j < ls.length → (ls.getD j []).length ≤ 9223372036854775807) :
    Calls Tryd.prog 3 #[.slice A k c] w (Says w true) := by
  have Hk := Lib.hid hk
  have Hp := Lib.hid hp
  have Hkt := Lib.hid hkt
  clear hk hp hkt
  go_enter Tryd.func3, Tryd.ntmps3
  go_wp2_with fail
  refine (awake _ Hkt.out).mono ?_
  rintro e w1 ⟨rfl, hb1⟩
  have Hkt1 := Lib.hid (Hkt.out.grow hb1)
  have Hb1 := Lib.hid hb1
  have h1 := (h.keep hb1).more hb1.size
  clear hb1 h
  by_cases h20 : k ≤ 10
  · go_wp2
    go_loop [3] (fun i => ∃ t : Nat, t ≤ k ∧ i = .int .i64 (t : Int) ∧ Hid (∀ j, j < t → (ls.getD j []).length ≤ 200)) (fun i => k - (intOf i).toNat)
    case atStart => exact ⟨0, by omega, rfl, fun j hj => by omega⟩
    case round =>
      obtain ⟨t, ht, rfl, Ht⟩ := hrel
      by_cases hlt : t < k
      · have htl : t < ls.length := by have := Hk.out; omega
        obtain ⟨b1, o1, B1, d1, rfl, hbb, hc1, hd1, hr1⟩ := h1.at_ htl
        obtain ⟨m, hm⟩ : ∃ m, m = ls[t].length := ⟨_, rfl⟩
        have hg : (ls.getD t []).length = m := by rw [hm]; simp [htl]
        have hmm : m ≤ 9223372036854775807 := by rw [← hg]; exact Hp.out t htl
        rw [← hm] at hc1
        have Hg := Lib.hid hg
        clear hr1 hd1 hm h1 hg
        by_cases h100 : m ≤ 200
        · go_wp2
          go_round
          case rel =>
            refine ⟨t + 1, by omega, by go_num, fun j hj => ?_⟩
            by_cases hjt : j = t
            · rw [hjt, Hg.out]; exact h100
            · exact Ht.out j (by omega)
          case measure => simp [intOf]; omega
        · go_wp2
          go_ret
          exact ⟨rfl, Hb1.out⟩
      · obtain rfl : k = t := by omega
        have hfl := flat_len ls (fun j hj => Ht.out j (by have := Hk.out; omega))
        have hf2 : ls.flatten.length ≤ 2000 := by have := Hk.out; omega
        obtain ⟨T, hT⟩ : ∃ T, T = ls.flatten := ⟨_, rfl⟩
        rw [← hT] at hf2
        have HT := Lib.hid hT
        obtain ⟨m, hm⟩ : ∃ m, T.length = m := ⟨_, rfl⟩
        obtain ⟨D, hD⟩ : ∃ D, D = arr (digest (sumV T)) := ⟨_, rfl⟩
        have HD := Lib.hid hD
        have Hm := Lib.hid hm
        have hm2 : m ≤ 2000 := by rw [← hm]; exact hf2
        have Hf := Lib.hid (show ls.flatten.length ≤ 2000 by rw [← hT]; exact hf2)
        have H1 := Lib.hid h1
        have Hi := Lib.hid (show (Tryd.prog.info? 26).map (·.size) = some D.size by rw [hD, arr_size, digest_len]; exact infoA)
        have Hsz := Lib.hid (show D.size = 64 by rw [hD, arr_size, digest_len])
        have Hone := Lib.hid (show D.all (·.oneCell') = true by rw [hD]; exact arr_one _)
        clear hT hm hfl hf2 h1 hD
        go_wp2_with fail
        refine (all_any A k c ls _ H1.out Hk.out (by omega) (by have := Hf.out; omega)).mono ?_
        rintro e w2 ⟨A2, c2, rfl, ho2, hb2⟩
        rw [← HT.out] at ho2 ⊢
        rw [Hm.out]
        have Ho2 := Lib.hid ho2
        have Hb2 := Lib.hid hb2
        have H2 := Lib.hid ((H1.out.keep hb2).more hb2.size)
        have Hkt2 := Lib.hid (Hkt1.out.grow hb2)
        clear ho2 hb2
        go_wp2_with fail
        refine (sum_put A k c ls _ Hkt2.out H2.out Hk.out (by omega) (by have := Hf.out; omega)).mono ?_
        rintro e w3 ⟨rfl, hb3⟩
        rw [← HT.out, ← HD.out]
        have Hb3 := Lib.hid hb3
        have Hkt3 := Lib.hid (Hkt2.out.grow hb3)
        have S2 := Lib.hid (Ho2.out.rd.grow hb3)
        have hc2 : m ≤ c2 := by have := Ho2.out.le; rw [Hm.out] at this; exact this
        clear hb3
        go_wp2_with fail
        refine (put_one Hkt3.out S2.out Hm.out hc2 (by omega) (0, 0)).mono ?_
        rintro e w4 ⟨rfl, hb4⟩
        rw [← HD.out]
        have Hb4 := Lib.hid hb4
        replace S2 := Lib.hid (S2.out.grow hb4)
        have H4 := Lib.hid (RdL.more (RdL.keep (RdL.more (RdL.keep H2.out Hb3.out) (Below.size Hb3.out)) hb4) (Below.size hb4))
        clear hb4
        go_wp2_with (first
          | (refine wpList_store_prev rfl 26 (.tmp 5) (.tmp 30) rfl rfl rfl Hi.out (by rw [Hsz.out]; rfl) Hone.out ?_)
          | (refine wpList_store_last rfl 26 (.tmp 6) (.tmp 33) rfl (W := w4.alloc (.cells D 26)) (by rw [show (w4.alloc (.cells D 26)).heap.size = w4.heap.size + 1 by simp]; rfl) rfl Hi.out (by rw [Hsz.out]; rfl) Hone.out ?_))
        have HA1 := Lib.hid (show ((w4.alloc (.cells D 26)).alloc (.cells D 26)).heap[w4.heap.size]? = some (.cells D 26 (0, 0)) from (Below.heap_alloc _ _ _ (by simp)).trans (heap_alloc_new w4 _))
        have HA2 := Lib.hid (show ((w4.alloc (.cells D 26)).alloc (.cells D 26)).heap[w4.heap.size + 1]? = some (.cells D 26 (0, 0)) from by
          have := heap_alloc_new (w4.alloc (.cells D 26)) (.cells D 26)
          rwa [show (w4.alloc (.cells D 26)).heap.size = w4.heap.size + 1 by simp] at this)
        have Hg6 := Lib.hid (Grown.trans (alloc_below w4 (.cells D 26)) (alloc_below _ (.cells D 26)))
        have Hall := Lib.hid (Grown.trans (Grown.trans (Grown.trans (show Grown w w1 from Hb1.out) (show Grown w1 w2 from Hb2.out)) (Grown.trans Hb3.out Hb4.out)) Hg6.out)
        replace S2 := Lib.hid (S2.out.grow Hg6.out)
        replace H4 := Lib.hid ((H4.out.keep Hg6.out).more (Below.size Hg6.out))
        generalize (w4.alloc (.cells D 26)).alloc (.cells D 26) = w6 at *
        have hg4 : w4.heap.size < w6.heap.size := lt_of_heap HA1.out
        generalize w4.heap.size = g4 at *
        obtain ⟨dg, hdg⟩ : ∃ dg, dg = digest (sumV T) := ⟨_, rfl⟩
        have Hdl := Lib.hid (show dg.length = 64 by rw [hdg, digest_len])
        have HDg := Lib.hid (show D = (bvs dg).toArray by rw [HD.out, hdg]; rfl)
        have Hdg := Lib.hid hdg
        clear hdg Hb1 Hb2 Hb3 Hb4 Hg6
        refine rest_start (by kernel_rfl) fun v hv => ?_
        have SA := Lib.hid (show Rd v v.heap.size (some ⟨g4, 0, none⟩) dg from Rd.grow (by have := HA1.out; rw [HDg.out] at this; exact rd_block this hg4) hv)
        replace HA1 := Lib.hid (show v.heap[g4]? = _ from (hv.block _ (lt_of_heap HA1.out)).trans HA1.out)
        replace HA2 := Lib.hid (show v.heap[g4 + 1]? = _ from (hv.block _ (lt_of_heap HA2.out)).trans HA2.out)
        replace S2 := Lib.hid (S2.out.grow hv)
        replace H4 := Lib.hid ((H4.out.keep hv).more (Below.size hv))
        replace Hall := Lib.hid (Grown.trans Hall.out hv)
        clear hv hg4
        refine rest_take (i := 0) rfl (by kernel_rfl) (by kernel_rfl) (by kernel_rfl) (by rfl) (fun w' hg => by go_simp; try with_reducible rfl) ?_
        try simp only [Act.put, List.setIfInBounds_toArray, List.set_cons_zero, List.set_cons_succ]
        refine rest_take (i := 1) rfl (by kernel_rfl) (by kernel_rfl) (by kernel_rfl) (by rfl) (fun w' hg => by have hc := conv_at SA.out Hdl.out 64 w' hg; go_simp; try with_reducible rfl) ?_
        try simp only [Act.put, List.setIfInBounds_toArray, List.set_cons_zero, List.set_cons_succ]
        refine rest_take (i := 2) rfl (by kernel_rfl) (by kernel_rfl) (by kernel_rfl) (by rfl) (fun w' hg => by go_simp; try with_reducible rfl) ?_
        try simp only [Act.put, List.setIfInBounds_toArray, List.set_cons_zero, List.set_cons_succ]
        refine rest_lone (i := 3) rfl (by kernel_rfl) (by rfl) (fun K hK => ?_)
        go_simp
        refine (sum_any A2 m c2 T _ S2.out Hm.out (by omega)).mono ?_
        rintro e w7 ⟨rfl, hb7⟩
        refine hK.out _ _ hb7 ?_
        rw [← Hdg.out]
        have HB1 := Lib.hid (show w7.heap[g4]? = _ from (hb7.block _ (lt_of_heap HA1.out)).trans HA1.out)
        have HB2 := Lib.hid (show w7.heap[g4 + 1]? = _ from (hb7.block _ (lt_of_heap HA2.out)).trans HA2.out)
        have S7 := Lib.hid (S2.out.grow hb7)
        have H7 := Lib.hid ((H4.out.keep hb7).more (Below.size hb7))
        have Hall7 := Lib.hid (Grown.trans Hall.out hb7)
        clear hK K hb7 HA1 HA2 S2 H4 Hall SA
        try simp only [Act.put, List.setIfInBounds_toArray, List.set_cons_zero, List.set_cons_succ]
        refine rest_take (i := 4) rfl (by kernel_rfl) (by kernel_rfl) (by kernel_rfl) (by rfl) (fun w' hg => by go_simp; try with_reducible rfl) ?_
        try simp only [Act.put, List.setIfInBounds_toArray, List.set_cons_zero, List.set_cons_succ]
        refine rest_take (i := 5) rfl (by kernel_rfl) (by kernel_rfl) (by kernel_rfl) (by rfl) (fun w' hg => by go_simp; try with_reducible rfl) ?_
        try simp only [Act.put, List.setIfInBounds_toArray, List.set_cons_zero, List.set_cons_succ]
        refine rest_take (i := 6) rfl (by kernel_rfl) (by kernel_rfl) (by kernel_rfl) (by rfl) (fun w' hg => exec_load_row 26 (.tmp 5) _ rfl ((hg.block _ (lt_of_heap HB1.out)).trans HB1.out) u64D rfl Hi.out) ?_
        try simp only [Act.put, List.setIfInBounds_toArray, List.set_cons_zero, List.set_cons_succ]
        refine rest_take (i := 7) rfl (by kernel_rfl) (by kernel_rfl) (by kernel_rfl) (by rfl) (fun w' hg => exec_load_row 26 (.tmp 6) _ rfl ((hg.block _ (lt_of_heap HB2.out)).trans HB2.out) u64D rfl Hi.out) ?_
        try simp only [Act.put, List.setIfInBounds_toArray, List.set_cons_zero, List.set_cons_succ]
        refine rest_take (i := 8) rfl (by kernel_rfl) (by kernel_rfl) (by kernel_rfl) (by rfl) (fun w' hg => exec_eq_arr dg 26 64 u64D (by kernel_rfl) Hdl.out (.tmp 40) (.tmp 41) (by rw [← HDg.out]; rfl) (by rw [← HDg.out]; rfl) w') ?_
        try simp only [Act.put, List.setIfInBounds_toArray, List.set_cons_zero, List.set_cons_succ]
        refine rest_take (i := 9) rfl (by kernel_rfl) (by kernel_rfl) (by kernel_rfl) (by rfl) (fun w' hg => by go_simp; try with_reducible rfl) ?_
        try simp only [Act.put, List.setIfInBounds_toArray, List.set_cons_zero, List.set_cons_succ]
        refine rest_take (i := 10) rfl (by kernel_rfl) (by kernel_rfl) (by kernel_rfl) (by rfl) (fun w' hg => by go_simp; try with_reducible rfl) ?_
        try simp only [Act.put, List.setIfInBounds_toArray, List.set_cons_zero, List.set_cons_succ]
        refine rest_take (i := 11) rfl (by kernel_rfl) (by kernel_rfl) (by kernel_rfl) (by rfl) (fun w' hg => by go_simp; try with_reducible rfl) ?_
        try simp only [Act.put, List.setIfInBounds_toArray, List.set_cons_zero, List.set_cons_succ]
        refine rest_take (i := 14) rfl (by kernel_rfl) (by kernel_rfl) (by kernel_rfl) (by rfl) (fun w' hg => by go_simp; try with_reducible rfl) ?_
        try simp only [Act.put, List.setIfInBounds_toArray, List.set_cons_zero, List.set_cons_succ]
        refine rest_take (i := 15) rfl (by kernel_rfl) (by kernel_rfl) (by kernel_rfl) (by rfl) (fun w' hg => by have hc := conv_at S7.out Hm.out c2 w' hg; go_simp; try with_reducible rfl) ?_
        try simp only [Act.put, List.setIfInBounds_toArray, List.set_cons_zero, List.set_cons_succ]
        refine rest_lone (i := 12) rfl (by kernel_rfl) (by rfl) (fun K hK => ?_)
        go_simp
        refine (all_any A k c ls _ H7.out Hk.out (by omega) (by have := Hf.out; omega)).mono ?_
        rintro e w8 ⟨A8, c8, rfl, ho8, hb8⟩
        refine hK.out _ _ hb8 ?_
        rw [← HT.out] at ho8 ⊢
        rw [Hm.out]
        have S8 := Lib.hid ho8.rd
        have Hall8 := Lib.hid (Grown.trans Hall7.out hb8)
        clear hK K hb8 ho8
        try simp only [Act.put, List.setIfInBounds_toArray, List.set_cons_zero, List.set_cons_succ]
        refine rest_take (i := 13) rfl (by kernel_rfl) (by kernel_rfl) (by kernel_rfl) (by rfl) (fun w' hg => by have hc := conv_at S8.out Hm.out c8 w' hg; go_simp; try with_reducible rfl) ?_
        try simp only [Act.put, List.setIfInBounds_toArray, List.set_cons_zero, List.set_cons_succ]
        refine rest_take (i := 16) rfl (by kernel_rfl) (by kernel_rfl) (by kernel_rfl) (by rfl) (fun w' hg => by go_simp; try with_reducible rfl) ?_
        try simp only [Act.put, List.setIfInBounds_toArray, List.set_cons_zero, List.set_cons_succ]
        refine rest_take (i := 17) rfl (by kernel_rfl) (by kernel_rfl) (by kernel_rfl) (by rfl) (fun w' hg => by go_simp; try with_reducible rfl) ?_
        try simp only [Act.put, List.setIfInBounds_toArray, List.set_cons_zero, List.set_cons_succ]
        refine rest_take (i := 18) rfl (by kernel_rfl) (by kernel_rfl) (by kernel_rfl) (by rfl) (fun w' hg => by go_simp; try with_reducible rfl) ?_
        try simp only [Act.put, List.setIfInBounds_toArray, List.set_cons_zero, List.set_cons_succ]
        refine rest_done (by kernel_rfl) ?_
        go_wp2
        go_ret
        exact ⟨rfl, Hall8.out⟩
  · go_wp2_with fail
    refine (awake _ Hkt1.out).mono ?_
    rintro e w2 ⟨rfl, hb2⟩
    have Hb2 := Lib.hid hb2
    clear hb2
    go_wp2
    go_ret
    exact ⟨rfl, Grown.trans (show Grown w w1 from Hb1.out) (show Grown w1 w2 from Hb2.out)⟩
end Go.Proofs.YtbelcocgkimkbaaDoor.S4
