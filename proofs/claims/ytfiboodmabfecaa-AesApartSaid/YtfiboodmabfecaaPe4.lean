/-
  AesApart: the walk.
-/
import Derived.Test.YtfiboodmabfecaaPe0
namespace Go.Proofs.Ytfiboodmabfecaa.S7
open Go.RowKit
set_option linter.unusedVariables false
set_option linter.unusedSimpArgs false

/-- The key and two blocks that came in, boxed. -/
def In3 (w v : World) (k a b : List UInt8) : Prop := Grown w v ∧ Bk v w.heap.size 22 k ∧ Bk v (w.heap.size + 1) 23 a ∧ Bk v (w.heap.size + 1 + 1) 23 b
theorem In3.start (w : World) (k a b : List UInt8) : In3 w (((w.alloc (.cells (bvs k).toArray 22)).alloc (.cells (bvs a).toArray 23)).alloc (.cells (bvs b).toArray 23)) k a b := by
  have h1 : Bk ((w.alloc (.cells (bvs k).toArray 22)).alloc (.cells (bvs a).toArray 23)) w.heap.size 22 k := first_new w _ _
  have h2 : Bk ((w.alloc (.cells (bvs k).toArray 22)).alloc (.cells (bvs a).toArray 23)) (w.heap.size + 1) 23 a := two_new w _ _
  refine ⟨(two_grown w _ _).trans (alloc_below _ _), h1.alloc _, h2.alloc _, ?_⟩
  have := two_new (w.alloc (.cells (bvs k).toArray 22)) (.cells (bvs a).toArray 23) (.cells (bvs b).toArray 23)
  simpa [Bk] using this
theorem In3.grow {w v v' : World} {k a b : List UInt8} (h : In3 w v k a b) (hg : Grown v v') : In3 w v' k a b := ⟨h.1.trans hg, h.2.1.grow hg, h.2.2.1.grow hg, h.2.2.2.grow hg⟩
theorem In3.rd {w v : World} {k a b : List UInt8} (h : In3 w v k a b) : Rd v v.heap.size (some ⟨w.heap.size, 0, none⟩) k := bk_rd h.2.1 h.2.1.lt

set_option maxHeartbeats 4000000 in
set_option maxRecDepth 20000 in
theorem apart_walk (k a b : List UInt8) (hk : k.length = 32) (ha : a.length = 16) (hb : b.length = 16) (w : World) : Calls Try.prog 6 #[.agg (bvs k).toArray, .agg (bvs a).toArray, .agg (bvs b).toArray] w (Says w true) := by
  have HK := Lib.hid hk
  have HA := Lib.hid ha
  have HB := Lib.hid hb
  have H0 := Lib.hid (In3.start w k a b)
  clear hk ha hb
  go_enter Try.func6, Try.ntmps6
  go_wp2_with fail
  generalize ((w.alloc _).alloc _).alloc _ = w0 at H0 ⊢
  refine (awake w0).mono ?_
  rintro e w1 ⟨rfl, hg1⟩
  have H1 := Lib.hid (H0.out.grow hg1)
  clear hg1 H0
  go_wp2_with fail
  refine (new_any (some ⟨w.heap.size, 0, none⟩) 32 k HK.out (by omega) _ H1.out.rd).mono ?_
  rintro e w2 ⟨G, rfl, hG, hCi, hg2⟩
  have H2 := Lib.hid (H1.out.grow hg2)
  have HC := Lib.hid hCi
  clear hg2 H1 hCi hG
  go_wp2_with fail
  refine (new_any (some ⟨w.heap.size, 0, none⟩) 32 k HK.out (by omega) _ H2.out.rd).mono ?_
  rintro e w3 ⟨D, rfl, hG, hCi, hg2⟩
  have H3 := Lib.hid (H2.out.grow hg2)
  have HC3 := Lib.hid (HC.out.grow hg2)
  have HD3 := Lib.hid hCi
  clear hg2 H2 HC hCi hG
  obtain ⟨W, hW⟩ : ∃ W, W = keysL k := ⟨_, rfl⟩
  rw [← hW] at HC3 HD3
  clear hW
  go_wp2_with (first
    | (refine wpList_load_row rfl 23 (.tmp 4) rfl _ rfl H3.out.2.2.1 u16B rfl (size16 HA.out) ?_))
  refine (enc_any G W a HA.out _ HC3.out).mono ?_
  rintro e w4 ⟨rfl, hg⟩
  have H4 := Lib.hid (H3.out.grow hg)
  have HC4 := Lib.hid (HC3.out.grow hg)
  have HD4 := Lib.hid (HD3.out.grow hg)
  clear hg H3 HC3 HD3
  obtain ⟨X, hX⟩ : ∃ X, X = encL W a := ⟨_, rfl⟩
  rw [← hX]
  have HXl := Lib.hid (show X.length = 16 by rw [hX]; exact encL_len _ _)
  have HX := Lib.hid hX
  clear hX
  obtain ⟨gx, hgx⟩ : ∃ g, g = w4.heap.size := ⟨_, rfl⟩
  have BX := Lib.hid (show Bk (w4.alloc (.cells (bvs X).toArray 23)) gx 23 X by rw [hgx]; exact Bk.new w4 _ _)
  have H5 := Lib.hid (H4.out.grow (alloc_below w4 (.cells (bvs X).toArray 23)))
  have HC5 := Lib.hid (HC4.out.grow (alloc_below w4 (.cells (bvs X).toArray 23)))
  have HD5 := Lib.hid (HD4.out.grow (alloc_below w4 (.cells (bvs X).toArray 23)))
  have HGX := Lib.hid hgx
  clear hgx H4 HC4 HD4
  go_wp2_with (first
    | (refine wpList_store_last rfl 23 (.tmp 11) (.tmp 33) rfl rfl rfl (size16 HXl.out) (by simp [bvs, HXl.out]) (one16 X) ?_)
    | (refine wpList_load_row rfl 23 (.tmp 5) rfl _ rfl H5.out.2.2.2 u16B rfl (size16 HB.out) ?_))
  rw [← HGX.out]
  generalize w4.alloc _ = w5 at BX H5 HC5 HD5 ⊢
  refine (dec_any G W b HB.out _ HC5.out).mono ?_
  rintro e w6 ⟨rfl, hg⟩
  have H6 := Lib.hid (H5.out.grow hg)
  have HC6 := Lib.hid (HC5.out.grow hg)
  have HD6 := Lib.hid (HD5.out.grow hg)
  have BX6 := Lib.hid (BX.out.grow hg)
  clear hg H5 HC5 HD5 BX HGX
  go_wp2_with (first
    | (refine wpList_load_row rfl 23 (.tmp 5) rfl _ rfl H6.out.2.2.2 u16B rfl (size16 HB.out) ?_))
  refine (enc_any G W b HB.out _ HC6.out).mono ?_
  rintro e w7 ⟨rfl, hg⟩
  have H7 := Lib.hid (H6.out.grow hg)
  have HC7 := Lib.hid (HC6.out.grow hg)
  have HD7 := Lib.hid (HD6.out.grow hg)
  have BX7 := Lib.hid (BX6.out.grow hg)
  clear hg H6 HC6 HD6 BX6
  obtain ⟨Y, hY⟩ : ∃ Y, Y = encL W b := ⟨_, rfl⟩
  rw [← hY]
  have HYl := Lib.hid (show Y.length = 16 by rw [hY]; exact encL_len _ _)
  have HY := Lib.hid hY
  clear hY
  go_wp2_with (first
    | (refine wpList_store_last rfl 23 (.tmp 12) (.tmp 39) rfl rfl rfl (size16 HYl.out) (by simp [bvs, HYl.out]) (one16 Y) ?_))
  obtain ⟨gy, hgy⟩ : ∃ g, g = w7.heap.size := ⟨_, rfl⟩
  have BY := Lib.hid (show Bk (w7.alloc (.cells (bvs Y).toArray 23)) gy 23 Y by rw [hgy]; exact Bk.new w7 _ _)
  have H8 := Lib.hid (H7.out.grow (alloc_below w7 (.cells (bvs Y).toArray 23)))
  have HC8 := Lib.hid (HC7.out.grow (alloc_below w7 (.cells (bvs Y).toArray 23)))
  have HD8 := Lib.hid (HD7.out.grow (alloc_below w7 (.cells (bvs Y).toArray 23)))
  have BX8 := Lib.hid (BX7.out.grow (alloc_below w7 (.cells (bvs Y).toArray 23)))
  rw [← hgy]
  clear hgy H7 HC7 HD7 BX7
  generalize w7.alloc _ = w8 at BY H8 HC8 HD8 BX8 ⊢
  try simp only [Act.put]
  refine rest_start (by kernel_rfl) fun v hv => ?_
  have BX9 := Lib.hid (BX8.out.grow hv)
  have BY9 := Lib.hid (BY.out.grow hv)
  have H9 := Lib.hid (H8.out.grow hv)
  have HC9 := Lib.hid (HC8.out.grow hv)
  have HD9 := Lib.hid (HD8.out.grow hv)
  clear hv BX8 BY H8 HC8 HD8
  refine rest_take (i := 0) rfl (by kernel_rfl) (by kernel_rfl) (by kernel_rfl) (by rfl) (fun w' hg => exec_load_row 23 (.tmp 11) _ rfl ((hg.block _ (BX9.out).lt).trans BX9.out) u16B rfl (size16 HXl.out)) ?_
  try simp only [Act.put, List.setIfInBounds_toArray, List.set_cons_zero, List.set_cons_succ]
  refine rest_take (i := 1) rfl (by kernel_rfl) (by kernel_rfl) (by kernel_rfl) (by rfl) (fun w' hg => exec_load_row 23 (.tmp 12) _ rfl ((hg.block _ (BY9.out).lt).trans BY9.out) u16B rfl (size16 HYl.out)) ?_
  try simp only [Act.put, List.setIfInBounds_toArray, List.set_cons_zero, List.set_cons_succ]
  refine rest_take (i := 3) rfl (by kernel_rfl) (by kernel_rfl) (by kernel_rfl) (by rfl) (fun w' hg => exec_load_row 23 (.tmp 4) _ rfl ((hg.block _ (H9.out.2.2.1).lt).trans H9.out.2.2.1) u16B rfl (size16 HA.out)) ?_
  try simp only [Act.put, List.setIfInBounds_toArray, List.set_cons_zero, List.set_cons_succ]
  refine rest_take (i := 4) rfl (by kernel_rfl) (by kernel_rfl) (by kernel_rfl) (by rfl) (fun w' hg => exec_load_row 23 (.tmp 5) _ rfl ((hg.block _ (H9.out.2.2.2).lt).trans H9.out.2.2.2) u16B rfl (size16 HB.out)) ?_
  try simp only [Act.put, List.setIfInBounds_toArray, List.set_cons_zero, List.set_cons_succ]
  refine rest_take (i := 2) rfl (by kernel_rfl) (by kernel_rfl) (by kernel_rfl) (by rfl) (fun w' hg => exec_eq_two X Y 23 16 u16B (by kernel_rfl) HXl.out HYl.out (.tmp 40) (.tmp 41) rfl rfl _) ?_
  try simp only [Act.put, List.setIfInBounds_toArray, List.set_cons_zero, List.set_cons_succ]
  refine rest_take (i := 5) rfl (by kernel_rfl) (by kernel_rfl) (by kernel_rfl) (by rfl) (fun w' hg => exec_eq_two a b 23 16 u16B (by kernel_rfl) HA.out HB.out (.tmp 43) (.tmp 44) rfl rfl _) ?_
  try simp only [Act.put, List.setIfInBounds_toArray, List.set_cons_zero, List.set_cons_succ]
  rw [show decide (X = Y) = decide (a = b) by rw [HX.out, HY.out]; exact decide_eq_decide.2 (enc_apart W a b HA.out HB.out)]
  generalize decide (a = b) = bb
  refine rest_take (i := 6) rfl (by kernel_rfl) (by kernel_rfl) (by kernel_rfl) (by rfl) (fun w' hg => by go_simp; try with_reducible rfl) ?_
  try simp only [Act.put, List.setIfInBounds_toArray, List.set_cons_zero, List.set_cons_succ]
  refine rest_take (i := 7) rfl (by kernel_rfl) (by kernel_rfl) (by kernel_rfl) (by rfl) (fun w' hg => by go_simp; try with_reducible rfl) ?_
  try simp only [Act.put, List.setIfInBounds_toArray, List.set_cons_zero, List.set_cons_succ]
  refine rest_take (i := 8) rfl (by kernel_rfl) (by kernel_rfl) (by kernel_rfl) (by rfl) (fun w' hg => by go_simp; try with_reducible rfl) ?_
  try simp only [Act.put, List.setIfInBounds_toArray, List.set_cons_zero, List.set_cons_succ]
  refine rest_take (i := 9) rfl (by kernel_rfl) (by kernel_rfl) (by kernel_rfl) (by rfl) (fun w' hg => exec_load_row 23 (.tmp 5) _ rfl ((hg.block _ (H9.out.2.2.2).lt).trans H9.out.2.2.2) u16B rfl (size16 HB.out)) ?_
  try simp only [Act.put, List.setIfInBounds_toArray, List.set_cons_zero, List.set_cons_succ]
  refine rest_take (i := 11) rfl (by kernel_rfl) (by kernel_rfl) (by kernel_rfl) (by rfl) (fun w' hg => exec_load_row 23 (.tmp 12) _ rfl ((hg.block _ (BY9.out).lt).trans BY9.out) u16B rfl (size16 HYl.out)) ?_
  try simp only [Act.put, List.setIfInBounds_toArray, List.set_cons_zero, List.set_cons_succ]
  refine rest_lone (i := 10) rfl (by kernel_rfl) (by rfl) (fun K hK => ?_)
  go_simp
  refine (enc_any D W b HB.out _ HD9.out).mono ?_
  rintro e v6 ⟨rfl, hg6⟩
  rw [← HY.out]
  have BX10 := Lib.hid (BX9.out.grow hg6)
  have H10 := Lib.hid (H9.out.grow hg6)
  have HC10 := Lib.hid (HC9.out.grow hg6)
  refine hK.out _ _ hg6 ?_
  clear hK K hg6 BX9 BY9 H9 HC9 HD9
  try simp only [Act.put, List.setIfInBounds_toArray, List.set_cons_zero, List.set_cons_succ]
  refine rest_take (i := 12) rfl (by kernel_rfl) (by kernel_rfl) (by kernel_rfl) (by rfl) (fun w' hg => exec_eq_arr Y 23 16 u16B (by kernel_rfl) HYl.out (.tmp 50) (.tmp 51) rfl rfl _) ?_
  try simp only [Act.put, List.setIfInBounds_toArray, List.set_cons_zero, List.set_cons_succ]
  refine rest_take (i := 13) rfl (by kernel_rfl) (by kernel_rfl) (by kernel_rfl) (by rfl) (fun w' hg => by go_simp; try with_reducible rfl) ?_
  try simp only [Act.put, List.setIfInBounds_toArray, List.set_cons_zero, List.set_cons_succ]
  refine rest_take (i := 14) rfl (by kernel_rfl) (by kernel_rfl) (by kernel_rfl) (by rfl) (fun w' hg => by go_simp; try with_reducible rfl) ?_
  try simp only [Act.put, List.setIfInBounds_toArray, List.set_cons_zero, List.set_cons_succ]
  refine rest_take (i := 15) rfl (by kernel_rfl) (by kernel_rfl) (by kernel_rfl) (by rfl) (fun w' hg => by go_simp; try with_reducible rfl) ?_
  try simp only [Act.put, List.setIfInBounds_toArray, List.set_cons_zero, List.set_cons_succ]
  refine rest_take (i := 16) rfl (by kernel_rfl) (by kernel_rfl) (by kernel_rfl) (by rfl) (fun w' hg => exec_load_row 23 (.tmp 4) _ rfl ((hg.block _ (H10.out.2.2.1).lt).trans H10.out.2.2.1) u16B rfl (size16 HA.out)) ?_
  try simp only [Act.put, List.setIfInBounds_toArray, List.set_cons_zero, List.set_cons_succ]
  refine rest_take (i := 18) rfl (by kernel_rfl) (by kernel_rfl) (by kernel_rfl) (by rfl) (fun w' hg => exec_load_row 23 (.tmp 11) _ rfl ((hg.block _ (BX10.out).lt).trans BX10.out) u16B rfl (size16 HXl.out)) ?_
  try simp only [Act.put, List.setIfInBounds_toArray, List.set_cons_zero, List.set_cons_succ]
  refine rest_lone (i := 17) rfl (by kernel_rfl) (by rfl) (fun K hK => ?_)
  go_simp
  refine (enc_any G W a HA.out _ HC10.out).mono ?_
  rintro e v7 ⟨rfl, hg7⟩
  rw [← HX.out]
  have H11 := Lib.hid (H10.out.grow hg7)
  refine hK.out _ _ hg7 ?_
  clear hK K hg7 BX10 H10 HC10
  try simp only [Act.put, List.setIfInBounds_toArray, List.set_cons_zero, List.set_cons_succ]
  refine rest_take (i := 19) rfl (by kernel_rfl) (by kernel_rfl) (by kernel_rfl) (by rfl) (fun w' hg => exec_eq_arr X 23 16 u16B (by kernel_rfl) HXl.out (.tmp 57) (.tmp 58) rfl rfl _) ?_
  try simp only [Act.put, List.setIfInBounds_toArray, List.set_cons_zero, List.set_cons_succ]
  refine rest_take (i := 20) rfl (by kernel_rfl) (by kernel_rfl) (by kernel_rfl) (by rfl) (fun w' hg => by go_simp; try with_reducible rfl) ?_
  try simp only [Act.put, List.setIfInBounds_toArray, List.set_cons_zero, List.set_cons_succ]
  refine rest_take (i := 21) rfl (by kernel_rfl) (by kernel_rfl) (by kernel_rfl) (by rfl) (fun w' hg => by go_simp; try with_reducible rfl) ?_
  try simp only [Act.put, List.setIfInBounds_toArray, List.set_cons_zero, List.set_cons_succ]
  refine rest_done (by kernel_rfl) ?_
  go_wp2
  go_ret
  exact ⟨rfl, H11.out.1⟩
end Go.Proofs.Ytfiboodmabfecaa.S7
