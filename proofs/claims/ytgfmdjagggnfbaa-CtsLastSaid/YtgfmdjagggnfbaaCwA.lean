/-
  law09's awake, out of the program's contracts.
-/
import Derived.Test.YtgfmdjagggnfbaaCwC
namespace Go.Proofs.Ytgfmdjagggnfbaa.S9
open Go.RowKit
open Go.Proofs.Ytgfmdjagggnfbaa.S7 hiding intOf
open Go.Proofs.Ytgfmdjagggnfbaa.S8 (Br sz16 on16 wr64 xorL xorL_len xor_xorL z16)
set_option linter.unusedVariables false
set_option linter.unusedSimpArgs false

set_option maxHeartbeats 4000000 in
set_option maxRecDepth 20000 in
theorem awakeC (HE : EncFit) (w : World) : Calls Try.prog 6 #[] w (Says w true) := by
  have Hok := Lib.hid HE
  clear HE
  obtain ⟨Z, hZ⟩ : ∃ Z, Z = (bvs (List.replicate 32 0)).toArray := ⟨_, rfl⟩
  have HZ := Lib.hid hZ
  have hm : ∀ V : World, (Instr.makeSlice 23 (.int .i64 32) (.int .i64 32)).run Try.prog V = .ok (.slice (some ⟨V.heap.size, 0, none⟩) 32 32) (V.alloc (.cells Z 5)) := fun V => mk_zero 32 (by omega) Z hZ V
  have HR0 := Lib.hid (made_rd w (List.replicate 32 0) Z hZ (Grown.refl _))
  clear hZ
  go_enter Try.func6, Try.ntmps6
  go_wp2_with fail
  refine (new_any (some ⟨w.heap.size, 0, none⟩) 32 (List.replicate 32 0) (by simp) (by omega) _ HR0.out).mono ?_
  rintro e w2 ⟨G, rfl, _, hCi, hg2⟩
  obtain ⟨W, hW⟩ : ∃ W, W = keysL (List.replicate 32 0) := ⟨_, rfl⟩
  rw [← hW] at hCi
  have G2 := Lib.hid (Grown.trans (alloc_below w (.cells Z 5)) hg2)
  have C2 := Lib.hid hCi
  clear hg2 hCi hW hm HR0 HZ
  have HB := Lib.hid (Br.new w2 zs16)
  have C3 := Lib.hid (C2.out.grow (alloc_below w2 (.cells (bvs zs16).toArray 37)))
  have G3 := Lib.hid (Grown.trans G2.out (alloc_below w2 (.cells (bvs zs16).toArray 37)))
  rw [show (bvs zs16).toArray = #[Value.int .u8 0, Value.int .u8 0, Value.int .u8 0, Value.int .u8 0, Value.int .u8 0, Value.int .u8 0, Value.int .u8 0, Value.int .u8 0, Value.int .u8 0, Value.int .u8 0, Value.int .u8 0, Value.int .u8 0, Value.int .u8 0, Value.int .u8 0, Value.int .u8 0, Value.int .u8 0] from rfl] at HB C3 G3
  clear C2 G2
  go_wp2_with fail
  refine (Hok.out G W (some ⟨w2.heap.size, 0, none⟩) 16 16 zs16 _ C3.out (by rfl) (by omega) (by unfold maxLen; omega) (bk_all (t := 37) HB.out (by simp)) (by omega) (by omega)).mono ?_
  rintro e w4 ⟨A4, c4, rfl, hl4, hc4, hm4, hr4, hg4⟩
  rw [cts_zero] at hl4 hr4
  have HB4 := Lib.hid (HB.out.grow hg4)
  have C4 := Lib.hid (C3.out.grow hg4)
  have G4 := Lib.hid (Grown.trans G3.out hg4)
  obtain ⟨E, hE⟩ : ∃ E, E = encL W zs16 := ⟨_, rfl⟩
  rw [← hE] at hl4 hr4
  have HEe := Lib.hid hE
  have R4 := Lib.hid hr4
  have L4 := Lib.hid hl4
  clear HB C3 G3 hg4 hl4 hr4 hE hm4
  go_wp2_with (first
    | (refine S8.wpList_load_br rfl (.tmp 3) rfl rfl HB4.out rfl ?_))
  refine (enc_any G W zs16 rfl _ C4.out).mono ?_
  rintro e w5 ⟨rfl, hg5⟩
  rw [← HEe.out]
  have R5 := Lib.hid (R4.out.grow hg5)
  have G5 := Lib.hid (Grown.trans G4.out hg5)
  clear hg5 R4 G4 C4 HB4
  go_wp2_with (first
    | (refine wpList_store_last rfl 37 (.tmp 6) (.tmp 23) rfl rfl rfl (size16 L4.out) (by simp [bvs, L4.out]) (one16 E) ?_))
  obtain ⟨g, hg⟩ : ∃ g, g = w5.heap.size := ⟨_, rfl⟩
  have HX := Lib.hid (show Bk (w5.alloc (.cells (bvs E).toArray 37)) g 37 E by rw [hg]; exact Bk.new w5 _ _)
  have R6 := Lib.hid (R5.out.grow (alloc_below w5 (.cells (bvs E).toArray 37)))
  have G6 := Lib.hid (Grown.trans G5.out (alloc_below w5 (.cells (bvs E).toArray 37)))
  rw [← hg]
  clear hg R5 G5
  generalize w5.alloc _ = w6 at HX R6 G6 ⊢
  obtain ⟨S1, hS1⟩ : ∃ S : ByteArray, S = ⟨E.toArray⟩ := ⟨_, rfl⟩
  have HS1 := Lib.hid hS1
  clear hS1
  try simp only [Act.put]
  refine rest_start (by kernel_rfl) fun v hv => ?_
  have R7 := Lib.hid (R6.out.grow hv)
  have G7 := Lib.hid (Grown.trans G6.out hv)
  have X7 := Lib.hid (show Rd v v.heap.size (some ⟨g, 0, none⟩) E from bk_all (HX.out.grow hv) (HX.out.grow hv).lt)
  clear hv R6 G6 HX
  refine rest_take (i := 0) rfl (by kernel_rfl) (by kernel_rfl) (by kernel_rfl) (by rfl) (fun w' hg => by go_simp; try with_reducible rfl) ?_
  try simp only [Act.put, List.setIfInBounds_toArray, List.set_cons_zero, List.set_cons_succ]
  refine rest_take (i := 1) rfl (by kernel_rfl) (by kernel_rfl) (by kernel_rfl) (by rfl) (fun w' hg => by go_simp; try with_reducible rfl) ?_
  try simp only [Act.put, List.setIfInBounds_toArray, List.set_cons_zero, List.set_cons_succ]
  refine rest_take (i := 2) rfl (by kernel_rfl) (by kernel_rfl) (by kernel_rfl) (by rfl) (fun w' hg => by go_simp; try with_reducible rfl) ?_
  try simp only [Act.put, List.setIfInBounds_toArray, List.set_cons_zero, List.set_cons_succ]
  refine rest_take (i := 3) rfl (by kernel_rfl) (by kernel_rfl) (by kernel_rfl) (by rfl) (fun w' hg => by go_simp; try with_reducible rfl) ?_
  try simp only [Act.put, List.setIfInBounds_toArray, List.set_cons_zero, List.set_cons_succ]
  refine rest_take (i := 4) rfl (by kernel_rfl) (by kernel_rfl) (by kernel_rfl) (by rfl) (fun w' hg => by have hcv := conv_at R7.out L4.out c4 w' hg; rw [← HS1.out] at hcv; go_simp; try with_reducible rfl) ?_
  try simp only [Act.put, List.setIfInBounds_toArray, List.set_cons_zero, List.set_cons_succ]
  refine rest_take (i := 5) rfl (by kernel_rfl) (by kernel_rfl) (by kernel_rfl) (by rfl) (fun w' hg => by go_simp; try with_reducible rfl) ?_
  try simp only [Act.put, List.setIfInBounds_toArray, List.set_cons_zero, List.set_cons_succ]
  refine rest_take (i := 6) rfl (by kernel_rfl) (by kernel_rfl) (by kernel_rfl) (by rfl) (fun w' hg => by have hcv := conv_at X7.out L4.out 16 w' hg; rw [← HS1.out] at hcv; go_simp; try with_reducible rfl) ?_
  try simp only [Act.put, List.setIfInBounds_toArray, List.set_cons_zero, List.set_cons_succ]
  refine rest_take (i := 7) rfl (by kernel_rfl) (by kernel_rfl) (by kernel_rfl) (by rfl) (fun w' hg => by go_simp; try with_reducible rfl) ?_
  try simp only [Act.put, List.setIfInBounds_toArray, List.set_cons_zero, List.set_cons_succ]
  refine rest_take (i := 8) rfl (by kernel_rfl) (by kernel_rfl) (by kernel_rfl) (by rfl) (fun w' hg => by go_simp; try with_reducible rfl) ?_
  try simp only [Act.put, List.setIfInBounds_toArray, List.set_cons_zero, List.set_cons_succ]
  refine rest_take (i := 9) rfl (by kernel_rfl) (by kernel_rfl) (by kernel_rfl) (by rfl) (fun w' hg => by go_simp; try with_reducible rfl) ?_
  try simp only [Act.put, List.setIfInBounds_toArray, List.set_cons_zero, List.set_cons_succ]
  refine rest_done (by kernel_rfl) ?_
  go_wp2
  go_ret
  exact ⟨rfl, G7.out⟩
theorem awakeC_twice (HE : EncFit) (w w1 : World) (h : Grown w w1) : Calls Try.prog 6 #[] w1 (Says w true) :=
  (awakeC HE w1).mono fun e w2 h2 => ⟨h2.1, Grown.trans h h2.2⟩
end Go.Proofs.Ytgfmdjagggnfbaa.S9
