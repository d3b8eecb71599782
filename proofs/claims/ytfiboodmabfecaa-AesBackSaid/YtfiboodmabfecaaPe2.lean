/-
  AesBack: the walk.
-/
import Derived.Test.YtfiboodmabfecaaPe0
namespace Go.Proofs.Ytfiboodmabfecaa.S7
open Go.RowKit
set_option linter.unusedVariables false
set_option linter.unusedSimpArgs false


set_option maxHeartbeats 4000000 in
set_option maxRecDepth 20000 in
theorem back_walk (k b : List UInt8) (hk : k.length = 32) (hb : b.length = 16) (w : World) : Calls Try.prog 4 #[.agg (bvs k).toArray, .agg (bvs b).toArray] w (Says w true) := by
  have HK := Lib.hid hk
  have HB := Lib.hid hb
  have H0 := Lib.hid (In2.start w k b)
  clear hk hb
  go_enter Try.func4, Try.ntmps4
  go_wp2_with fail
  generalize (w.alloc _).alloc _ = w0 at H0 ⊢
  refine (awake w0).mono ?_
  rintro e w1 ⟨rfl, hg1⟩
  have H1 := Lib.hid (H0.out.grow hg1)
  clear hg1 H0
  go_wp2_with fail
  refine (new_any (some ⟨w.heap.size, 0, none⟩) 32 k HK.out (by omega) _ H1.out.rd).mono ?_
  rintro e w2 ⟨G, rfl, hG, hCi, hg2⟩
  have H2 := Lib.hid (H1.out.grow hg2)
  have HC := Lib.hid hCi
  obtain ⟨W, hW⟩ : ∃ W, W = keysL k := ⟨_, rfl⟩
  rw [← hW] at HC
  have HW := Lib.hid hW
  clear hg2 H1 hCi hG hW
  go_wp2_with (first
    | (refine wpList_load_row rfl 23 (.tmp 3) rfl _ rfl H2.out.2.2 u16B rfl (size16 HB.out) ?_))
  refine (dec_any G W b HB.out _ HC.out).mono ?_
  rintro e w3 ⟨rfl, hg3⟩
  have H3 := Lib.hid (H2.out.grow hg3)
  have HC3 := Lib.hid (HC.out.grow hg3)
  clear hg3 H2 HC
  obtain ⟨E, hE⟩ : ∃ E, E = decL W b := ⟨_, rfl⟩
  rw [← hE]
  have HEl := Lib.hid (show E.length = 16 by rw [hE]; exact decL_len _ _)
  have HE := Lib.hid (show encL W E = b by rw [hE]; exact enc_dec W b HB.out)
  clear hE
  go_wp2_with (first
    | (refine wpList_store_last rfl 23 (.tmp 7) (.tmp 19) rfl rfl rfl (size16 HEl.out) (by simp [bvs, HEl.out]) (one16 E) ?_))
  obtain ⟨gx, hgx⟩ : ∃ g, g = w3.heap.size := ⟨_, rfl⟩
  have HX := Lib.hid (show Bk (w3.alloc (.cells (bvs E).toArray 23)) gx 23 E by rw [hgx]; exact Bk.new w3 _ _)
  have H4 := Lib.hid (H3.out.grow (alloc_below w3 (.cells (bvs E).toArray 23)))
  have HC4 := Lib.hid (HC3.out.grow (alloc_below w3 (.cells (bvs E).toArray 23)))
  rw [← hgx]
  clear hgx H3 HC3
  generalize w3.alloc _ = w4 at HX H4 HC4 ⊢
  try simp only [Act.put]
  refine rest_start (by kernel_rfl) fun v hv => ?_
  have HX5 := Lib.hid (HX.out.grow hv)
  have H5 := Lib.hid (H4.out.grow hv)
  have HC5 := Lib.hid (HC4.out.grow hv)
  clear hv HX H4 HC4
  refine rest_take (i := 0) rfl (by kernel_rfl) (by kernel_rfl) (by kernel_rfl) (by rfl) (fun w' hg => by go_simp; try with_reducible rfl) ?_
  try simp only [Act.put, List.setIfInBounds_toArray, List.set_cons_zero, List.set_cons_succ]
  refine rest_take (i := 1) rfl (by kernel_rfl) (by kernel_rfl) (by kernel_rfl) (by rfl) (fun w' hg => exec_load_row 23 (.tmp 7) _ rfl ((hg.block _ (HX5.out).lt).trans HX5.out) u16B rfl (size16 HEl.out)) ?_
  try simp only [Act.put, List.setIfInBounds_toArray, List.set_cons_zero, List.set_cons_succ]
  refine rest_take (i := 3) rfl (by kernel_rfl) (by kernel_rfl) (by kernel_rfl) (by rfl) (fun w' hg => exec_load_row 23 (.tmp 3) _ rfl ((hg.block _ (H5.out.2.2).lt).trans H5.out.2.2) u16B rfl (size16 HB.out)) ?_
  try simp only [Act.put, List.setIfInBounds_toArray, List.set_cons_zero, List.set_cons_succ]
  refine rest_lone (i := 2) rfl (by kernel_rfl) (by rfl) (fun K hK => ?_)
  go_simp
  refine (enc_any G W E HEl.out _ HC5.out).mono ?_
  rintro e v6 ⟨rfl, hg6⟩
  rw [HE.out]
  have HX6 := Lib.hid (HX5.out.grow hg6)
  have H6 := Lib.hid (H5.out.grow hg6)
  refine hK.out _ _ hg6 ?_
  clear hK K hg6 HX5 H5 HC5
  try simp only [Act.put, List.setIfInBounds_toArray, List.set_cons_zero, List.set_cons_succ]
  refine rest_take (i := 4) rfl (by kernel_rfl) (by kernel_rfl) (by kernel_rfl) (by rfl) (fun w' hg => exec_eq_arr b 23 16 u16B (by kernel_rfl) HB.out (.tmp 22) (.tmp 23) rfl rfl _) ?_
  try simp only [Act.put, List.setIfInBounds_toArray, List.set_cons_zero, List.set_cons_succ]
  refine rest_take (i := 5) rfl (by kernel_rfl) (by kernel_rfl) (by kernel_rfl) (by rfl) (fun w' hg => by go_simp; try with_reducible rfl) ?_
  try simp only [Act.put, List.setIfInBounds_toArray, List.set_cons_zero, List.set_cons_succ]
  refine rest_take (i := 6) rfl (by kernel_rfl) (by kernel_rfl) (by kernel_rfl) (by rfl) (fun w' hg => by go_simp; try with_reducible rfl) ?_
  try simp only [Act.put, List.setIfInBounds_toArray, List.set_cons_zero, List.set_cons_succ]
  refine rest_take (i := 8) rfl (by kernel_rfl) (by kernel_rfl) (by kernel_rfl) (by rfl) (fun w' hg => exec_load_row 23 (.tmp 7) _ rfl ((hg.block _ (HX6.out).lt).trans HX6.out) u16B rfl (size16 HEl.out)) ?_
  try simp only [Act.put, List.setIfInBounds_toArray, List.set_cons_zero, List.set_cons_succ]
  refine rest_take (i := 10) rfl (by kernel_rfl) (by kernel_rfl) (by kernel_rfl) (by rfl) (fun w' hg => exec_load_row 23 (.tmp 3) _ rfl ((hg.block _ (H6.out.2.2).lt).trans H6.out.2.2) u16B rfl (size16 HB.out)) ?_
  try simp only [Act.put, List.setIfInBounds_toArray, List.set_cons_zero, List.set_cons_succ]
  refine rest_lone (i := 7) rfl (by kernel_rfl) (by rfl) (fun K hK => ?_)
  go_simp
  refine (keys_any (some ⟨w.heap.size, 0, none⟩) 32 k _ H6.out.rd HK.out).mono ?_
  rintro e v7 ⟨A7, c7, rfl, ho7, hg7⟩
  rw [keysL_len k HK.out]
  have HR7 := Lib.hid (show I.Rd v7 v7.heap.size A7 W by rw [HW.out]; exact ho7.rd)
  have H7 := Lib.hid (H6.out.grow hg7)
  refine hK.out _ _ hg7 ?_
  clear hK K ho7 hg7 HX6 H6
  try simp only [Act.put, List.setIfInBounds_toArray, List.set_cons_zero, List.set_cons_succ]
  refine rest_lone (i := 9) rfl (by kernel_rfl) (by rfl) (fun K hK => ?_)
  go_simp
  refine (refEnc_any A7 c7 W E _ HR7.out (by rw [HW.out]; exact keysL_len k HK.out) HEl.out).mono ?_
  rintro e v8 ⟨rfl, hg8⟩
  rw [HE.out]
  have H8 := Lib.hid (H7.out.grow hg8)
  refine hK.out _ _ hg8 ?_
  clear hK K hg8 HR7 H7
  try simp only [Act.put, List.setIfInBounds_toArray, List.set_cons_zero, List.set_cons_succ]
  refine rest_take (i := 11) rfl (by kernel_rfl) (by kernel_rfl) (by kernel_rfl) (by rfl) (fun w' hg => exec_eq_arr b 23 16 u16B (by kernel_rfl) HB.out (.tmp 29) (.tmp 30) rfl rfl _) ?_
  try simp only [Act.put, List.setIfInBounds_toArray, List.set_cons_zero, List.set_cons_succ]
  refine rest_take (i := 12) rfl (by kernel_rfl) (by kernel_rfl) (by kernel_rfl) (by rfl) (fun w' hg => by go_simp; try with_reducible rfl) ?_
  try simp only [Act.put, List.setIfInBounds_toArray, List.set_cons_zero, List.set_cons_succ]
  refine rest_take (i := 13) rfl (by kernel_rfl) (by kernel_rfl) (by kernel_rfl) (by rfl) (fun w' hg => by go_simp; try with_reducible rfl) ?_
  try simp only [Act.put, List.setIfInBounds_toArray, List.set_cons_zero, List.set_cons_succ]
  refine rest_done (by kernel_rfl) ?_
  go_wp2
  go_ret
  exact ⟨rfl, H8.out.1⟩
end Go.Proofs.Ytfiboodmabfecaa.S7
