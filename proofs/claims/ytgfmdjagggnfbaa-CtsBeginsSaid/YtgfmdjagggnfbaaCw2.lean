/-
  CtsBegins: the walk, out of the program's contracts.
-/
import Derived.Test.YtgfmdjagggnfbaaCwA
import Derived.Test.YtgfmdjagggnfbaaCtB
namespace Go.Proofs.Ytgfmdjagggnfbaa.S9
open Go.RowKit
open Go.Proofs.Ytgfmdjagggnfbaa.S7 hiding intOf
open Go.Proofs.Ytgfmdjagggnfbaa.S8 (Br sz16 on16 wr64 xorL xorL_len xor_xorL z16)
set_option linter.unusedVariables false
set_option linter.unusedSimpArgs false

theorem u64X : Try.prog.underlying 33 = some (.array 64 5) := by kernel_rfl
theorem i64X : (Try.prog.info? 33).map (·.size) = some 64 := by kernel_rfl
theorem size64 {L : List UInt8} (h : L.length = 64) : (Try.prog.info? 33).map (·.size) = some (bvs L).toArray.size := by rw [show (bvs L).toArray.size = 64 by simp [bvs, h]]; exact i64X
theorem cutTo (W : World) (A : Option Addr) (m c d : Nat) (h : d ≤ c) : (Instr.slice 23 (.slice A m c) none (some (.int .i64 (d : Int))) none).run Try.prog W = .ok (.slice A d c) W := by
  obtain ⟨i0, hi, hz0, hz1, hz2⟩ := info_parts info5
  have he : Try.prog.elem 23 = 5 := by kernel_rfl
  rw [run_slice_h W 23 A m c (by rw [he]; exact Try.underlying23) .i64 (d : Int) (by omega) (by omega), he]
  cases A <;> simp [sizeOf, typeInfo, hi, hz1, sliced, Result.andThen, Addr.add]
theorem cutArr (W : World) (g e : Nat) (he : e ≤ 64) : (Instr.sliceAt 33 (.pointer (some ⟨g, 0, none⟩)) none (some (.int .i64 (e : Int))) none).run Try.prog W = .ok (.slice (some ⟨g, 0, none⟩) e 64) W := by
  obtain ⟨i0, hi0, hz0, hz1, hz2⟩ := info_parts info5
  have hel : Try.prog.elem 33 = 5 := by kernel_rfl
  have hl : Try.prog.arrayLen 33 = 64 := by kernel_rfl
  rw [run_sliceAt_array_h (P := Try.prog) W 33 ⟨g, 0, none⟩ (by rw [hel, hl]; exact u64X) .i64 (e : Int) (by omega) (by rw [hl]; omega), hel, hl]
  simp [sizeOf, typeInfo, hi0, hz1, slicedAt, Result.andThen, Addr.add]
def InS (w v : World) (k a b : List UInt8) : Prop := Grown w v ∧ Bk v w.heap.size 22 k ∧ Bk v (w.heap.size + 1) 33 a ∧ Bk v (w.heap.size + 1 + 1) 33 b
theorem InS.start (w : World) (k a b : List UInt8) : InS w (((w.alloc (.cells (bvs k).toArray 22)).alloc (.cells (bvs a).toArray 33)).alloc (.cells (bvs b).toArray 33)) k a b := by
  have h1 : Bk ((w.alloc (.cells (bvs k).toArray 22)).alloc (.cells (bvs a).toArray 33)) w.heap.size 22 k := first_new w _ _
  have h2 : Bk ((w.alloc (.cells (bvs k).toArray 22)).alloc (.cells (bvs a).toArray 33)) (w.heap.size + 1) 33 a := two_new w _ _
  refine ⟨Grown.trans (two_grown w _ _) (alloc_below _ _), h1.alloc _, h2.alloc _, ?_⟩
  have := two_new (w.alloc (.cells (bvs k).toArray 22)) (.cells (bvs a).toArray 33) (.cells (bvs b).toArray 33)
  simpa [Bk] using this
theorem InS.grow {w v v' : World} {k a b : List UInt8} (h : InS w v k a b) (hg : Grown v v') : InS w v' k a b := ⟨Grown.trans h.1 hg, h.2.1.grow hg, h.2.2.1.grow hg, h.2.2.2.grow hg⟩
theorem InS.key {w v : World} {k a b : List UInt8} (h : InS w v k a b) : Rd v v.heap.size (some ⟨w.heap.size, 0, none⟩) k := bk_all h.2.1 h.2.1.lt
theorem InS.fst {w v : World} {k a b : List UInt8} (h : InS w v k a b) : Rd v v.heap.size (some ⟨w.heap.size + 1, 0, none⟩) a := bk_all h.2.2.1 h.2.2.1.lt
theorem InS.snd {w v : World} {k a b : List UInt8} (h : InS w v k a b) : Rd v v.heap.size (some ⟨w.heap.size + 1 + 1, 0, none⟩) b := bk_all h.2.2.2 h.2.2.2.lt

set_option maxHeartbeats 4000000 in
set_option maxRecDepth 20000 in
theorem begins_walk (HE : EncFit) (k a b : List UInt8) (hk : k.length = 32) (ha : a.length = 64) (hb : b.length = 64) (w : World) :
    Calls Try.prog 4 #[.agg (bvs k).toArray, .agg (bvs a).toArray, .agg (bvs b).toArray] w (Says w true) := by
  have he := Lib.hid HE
  have HK := Lib.hid hk
  have HA := Lib.hid ha
  have HB := Lib.hid hb
  have H0 := Lib.hid (InS.start w k a b)
  have CE := Lib.hid (fun G W (B2 : Option Addr) (b2 : List UInt8) v (h : Ci v G W) (hb2 : b2.length = 64) (hr : Rd v v.heap.size B2 b2) => HE G W B2 64 64 b2 v h hb2 (by omega) (by unfold maxLen; omega) hr (by omega) (by omega))
  clear HE hk ha hb
  go_enter Try.func4, Try.ntmps4
  go_wp2_with fail
  generalize ((w.alloc _).alloc _).alloc _ = w0 at H0 ⊢
  refine (awakeC he.out w0).mono ?_
  rintro e w1 ⟨rfl, hg1⟩
  have H1 := Lib.hid (H0.out.grow hg1)
  clear hg1 H0
  go_wp2_with fail
  refine (new_any (some ⟨w.heap.size, 0, none⟩) 32 k HK.out (by omega) _ H1.out.key).mono ?_
  rintro e w2 ⟨G, rfl, _, hCi, hg2⟩
  obtain ⟨W, hW⟩ : ∃ W, W = keysL k := ⟨_, rfl⟩
  rw [← hW] at hCi
  have H2 := Lib.hid (H1.out.grow hg2)
  have C2 := Lib.hid hCi
  clear hg2 hCi H1 hW
  go_wp2_with fail
  refine (CE.out G W (some ⟨w.heap.size + 1, 0, none⟩) a _ C2.out HA.out H2.out.fst).mono ?_
  rintro e w3 ⟨A3, c3, rfl, hl3, hc3, hm3, hr3, hg3⟩
  obtain ⟨X, hX⟩ : ∃ X, X = ctsE W a := ⟨_, rfl⟩
  rw [← hX] at hl3 hr3
  have HX := Lib.hid hX
  have H3 := Lib.hid (H2.out.grow hg3)
  have C3 := Lib.hid (C2.out.grow hg3)
  have R3 := Lib.hid hr3
  have L3 := Lib.hid hl3
  clear hg3 H2 C2 hr3 hl3 hm3 hX
  go_wp2_with fail
  refine (CE.out G W (some ⟨w.heap.size + 1 + 1, 0, none⟩) b _ C3.out HB.out H3.out.snd).mono ?_
  rintro e w4 ⟨A4, c4, rfl, hl4, hc4, hm4, hr4, hg4⟩
  obtain ⟨Y, hY⟩ : ∃ Y, Y = ctsE W b := ⟨_, rfl⟩
  rw [← hY] at hl4 hr4
  have HY := Lib.hid hY
  have H4 := Lib.hid (H3.out.grow hg4)
  replace R3 := Lib.hid (R3.out.grow hg4)
  have R4 := Lib.hid hr4
  have L4 := Lib.hid hl4
  clear hg4 H3 C3 hr4 hl4 hm4 hY
  obtain ⟨SX, hSX⟩ : ∃ S : ByteArray, S = ⟨X.toArray⟩ := ⟨_, rfl⟩
  obtain ⟨SY, hSY⟩ : ∃ S : ByteArray, S = ⟨Y.toArray⟩ := ⟨_, rfl⟩
  obtain ⟨q, hq⟩ : ∃ q, q = decide (a = b) := ⟨_, rfl⟩
  have HE1 := Lib.hid (show (SX.toList == SY.toList) = q by
    rw [hq, hSX, hSY, slbeq, HX.out, HY.out]
    exact decide_eq_decide.2 (ctsE_inj W a b (by rw [HA.out]; omega) (by rw [HB.out]; omega)))
  have HSX := Lib.hid hSX
  have HSY := Lib.hid hSY
  have HQ := Lib.hid hq
  clear hSX hSY hq
  go_wp2
  try simp only [Act.put]
  refine rest_start (by kernel_rfl) fun v hv => ?_
  have H5 := Lib.hid (H4.out.grow hv)
  replace R3 := Lib.hid (R3.out.grow hv)
  replace R4 := Lib.hid (R4.out.grow hv)
  clear hv H4
  refine rest_take (i := 0) rfl (by kernel_rfl) (by kernel_rfl) (by kernel_rfl) (by rfl) (fun w' hg => by go_simp; try with_reducible rfl) ?_
  try simp only [Act.put, List.setIfInBounds_toArray, List.set_cons_zero, List.set_cons_succ]
  refine rest_take (i := 1) rfl (by kernel_rfl) (by kernel_rfl) (by kernel_rfl) (by rfl) (fun w' hg => by go_simp; try with_reducible rfl) ?_
  try simp only [Act.put, List.setIfInBounds_toArray, List.set_cons_zero, List.set_cons_succ]
  refine rest_take (i := 2) rfl (by kernel_rfl) (by kernel_rfl) (by kernel_rfl) (by rfl) (fun w' hg => by go_simp; try with_reducible rfl) ?_
  try simp only [Act.put, List.setIfInBounds_toArray, List.set_cons_zero, List.set_cons_succ]
  refine rest_take (i := 3) rfl (by kernel_rfl) (by kernel_rfl) (by kernel_rfl) (by rfl) (fun w' hg => by go_simp; try with_reducible rfl) ?_
  try simp only [Act.put, List.setIfInBounds_toArray, List.set_cons_zero, List.set_cons_succ]
  refine rest_take (i := 4) rfl (by kernel_rfl) (by kernel_rfl) (by kernel_rfl) (by rfl) (fun w' hg => by go_simp; try with_reducible rfl) ?_
  try simp only [Act.put, List.setIfInBounds_toArray, List.set_cons_zero, List.set_cons_succ]
  refine rest_take (i := 5) rfl (by kernel_rfl) (by kernel_rfl) (by kernel_rfl) (by rfl) (fun w' hg => by go_simp; try with_reducible rfl) ?_
  try simp only [Act.put, List.setIfInBounds_toArray, List.set_cons_zero, List.set_cons_succ]
  refine rest_take (i := 6) rfl (by kernel_rfl) (by kernel_rfl) (by kernel_rfl) (by rfl) (fun w' hg => by go_simp; try with_reducible rfl) ?_
  try simp only [Act.put, List.setIfInBounds_toArray, List.set_cons_zero, List.set_cons_succ]
  refine rest_take (i := 7) rfl (by kernel_rfl) (by kernel_rfl) (by kernel_rfl) (by rfl) (fun w' hg => by go_simp; try with_reducible rfl) ?_
  try simp only [Act.put, List.setIfInBounds_toArray, List.set_cons_zero, List.set_cons_succ]
  refine rest_take (i := 8) rfl (by kernel_rfl) (by kernel_rfl) (by kernel_rfl) (by rfl) (fun w' hg => by go_simp; try with_reducible rfl) ?_
  try simp only [Act.put, List.setIfInBounds_toArray, List.set_cons_zero, List.set_cons_succ]
  refine rest_take (i := 9) rfl (by kernel_rfl) (by kernel_rfl) (by kernel_rfl) (by rfl) (fun w' hg => by go_simp; try with_reducible rfl) ?_
  try simp only [Act.put, List.setIfInBounds_toArray, List.set_cons_zero, List.set_cons_succ]
  refine rest_take (i := 10) rfl (by kernel_rfl) (by kernel_rfl) (by kernel_rfl) (by rfl) (fun w' hg => by have hcv := conv_at R3.out L3.out c3 w' hg; rw [← HSX.out] at hcv; go_simp; try with_reducible rfl) ?_
  try simp only [Act.put, List.setIfInBounds_toArray, List.set_cons_zero, List.set_cons_succ]
  refine rest_take (i := 11) rfl (by kernel_rfl) (by kernel_rfl) (by kernel_rfl) (by rfl) (fun w' hg => by go_simp; try with_reducible rfl) ?_
  try simp only [Act.put, List.setIfInBounds_toArray, List.set_cons_zero, List.set_cons_succ]
  refine rest_take (i := 12) rfl (by kernel_rfl) (by kernel_rfl) (by kernel_rfl) (by rfl) (fun w' hg => by have hcv := conv_at R4.out L4.out c4 w' hg; rw [← HSY.out] at hcv; go_simp; try with_reducible rfl) ?_
  try simp only [Act.put, List.setIfInBounds_toArray, List.set_cons_zero, List.set_cons_succ]
  refine rest_take (i := 13) rfl (by kernel_rfl) (by kernel_rfl) (by kernel_rfl) (by rfl) (fun w' hg => by have hx1 := HE1.out; go_simp; try with_reducible rfl) ?_
  try simp only [Act.put, List.setIfInBounds_toArray, List.set_cons_zero, List.set_cons_succ]
  refine rest_take (i := 14) rfl (by kernel_rfl) (by kernel_rfl) (by kernel_rfl) (by rfl) (fun w' hg => exec_load_row 33 (.tmp 4) _ rfl ((hg.block _ (H5.out.2.2.1).lt).trans H5.out.2.2.1) u64X rfl (size64 HA.out)) ?_
  try simp only [Act.put, List.setIfInBounds_toArray, List.set_cons_zero, List.set_cons_succ]
  refine rest_take (i := 15) rfl (by kernel_rfl) (by kernel_rfl) (by kernel_rfl) (by rfl) (fun w' hg => exec_load_row 33 (.tmp 5) _ rfl ((hg.block _ (H5.out.2.2.2).lt).trans H5.out.2.2.2) u64X rfl (size64 HB.out)) ?_
  try simp only [Act.put, List.setIfInBounds_toArray, List.set_cons_zero, List.set_cons_succ]
  refine rest_take (i := 16) rfl (by kernel_rfl) (by kernel_rfl) (by kernel_rfl) (by rfl) (fun w' hg => exec_eq_two a b 33 64 u64X (by kernel_rfl) HA.out HB.out (.tmp 51) (.tmp 52) rfl rfl _) ?_
  try simp only [Act.put, List.setIfInBounds_toArray, List.set_cons_zero, List.set_cons_succ]
  rw [← HQ.out]
  refine rest_take (i := 17) rfl (by kernel_rfl) (by kernel_rfl) (by kernel_rfl) (by rfl) (fun w' hg => by go_simp; try with_reducible rfl) ?_
  try simp only [Act.put, List.setIfInBounds_toArray, List.set_cons_zero, List.set_cons_succ]
  refine rest_take (i := 18) rfl (by kernel_rfl) (by kernel_rfl) (by kernel_rfl) (by rfl) (fun w' hg => by go_simp; try with_reducible rfl) ?_
  try simp only [Act.put, List.setIfInBounds_toArray, List.set_cons_zero, List.set_cons_succ]
  refine rest_done (by kernel_rfl) ?_
  go_wp2
  go_loopw [13] (fun v13 wr => ∃ j n : Nat, v13 = .int .i64 (n : Int) ∧ n ≤ 48 ∧ Hid (n = 16 * j) ∧ Hid (InS w wr k a b ∧ Rd wr wr.heap.size A3 X ∧ Rd wr wr.heap.size A4 Y)) (fun v13 _ => 48 - (intOf v13).toNat)
  case atStart => exact ⟨1, 16, rfl, by omega, rfl, H5.out, R3.out, R4.out⟩
  case round =>
    clear H5 R3 R4
    obtain ⟨j, n, rfl, hn, Hn, H⟩ := hrel
    by_cases hlt : n ≤ 32
    · have bn : (n : Int) ≤ 32 := by omega
      have hs1 : ∀ V : World, (Instr.slice 23 (.slice A3 64 c3) none (some (.int .i64 (n : Int))) none).run Try.prog V = .ok (.slice A3 n c3) V := fun V => cutTo V A3 64 c3 n (by omega)
      have hs2 : ∀ V : World, (Instr.slice 23 (.slice A4 64 c4) none (some (.int .i64 (n : Int))) none).run Try.prog V = .ok (.slice A4 n c4) V := fun V => cutTo V A4 64 c4 n (by omega)
      have hs3 : ∀ V : World, (Instr.sliceAt 33 (.pointer (some ⟨w.heap.size + 1, 0, none⟩)) none (some (.int .i64 (n : Int))) none).run Try.prog V = .ok (.slice (some ⟨w.heap.size + 1, 0, none⟩) n 64) V := fun V => cutArr V _ n (by omega)
      have hs4 : ∀ V : World, (Instr.sliceAt 33 (.pointer (some ⟨w.heap.size + 1 + 1, 0, none⟩)) none (some (.int .i64 (n : Int))) none).run Try.prog V = .ok (.slice (some ⟨w.heap.size + 1 + 1, 0, none⟩) n 64) V := fun V => cutArr V _ n (by omega)
      have LX := Lib.hid (show (X.take n).length = n by rw [List.length_take, L3.out]; omega)
      have LY := Lib.hid (show (Y.take n).length = n by rw [List.length_take, L4.out]; omega)
      have LA := Lib.hid (show (a.take n).length = n by rw [List.length_take, HA.out]; omega)
      have LB := Lib.hid (show (b.take n).length = n by rw [List.length_take, HB.out]; omega)
      obtain ⟨S1, hS1⟩ : ∃ S : ByteArray, S = ⟨(X.take n).toArray⟩ := ⟨_, rfl⟩
      obtain ⟨S2, hS2⟩ : ∃ S : ByteArray, S = ⟨(Y.take n).toArray⟩ := ⟨_, rfl⟩
      obtain ⟨S3, hS3⟩ : ∃ S : ByteArray, S = ⟨(a.take n).toArray⟩ := ⟨_, rfl⟩
      obtain ⟨S4, hS4⟩ : ∃ S : ByteArray, S = ⟨(b.take n).toArray⟩ := ⟨_, rfl⟩
      obtain ⟨r, hr⟩ : ∃ r, r = decide (a.take n = b.take n) := ⟨_, rfl⟩
      have HE2 := Lib.hid (show (S3.toList == S4.toList) = r by rw [hr, hS3, hS4, slbeq])
      have HE3 := Lib.hid (show (S1.toList == S2.toList) = r by
        rw [hr, hS1, hS2, slbeq, HX.out, HY.out, Hn.out]
        exact decide_eq_decide.2 (begins W a b j (by rw [HA.out]; have := Hn.out; unfold nb; omega) (by rw [HB.out]; have := Hn.out; unfold nb; omega)))
      have HS1 := Lib.hid hS1
      have HS2 := Lib.hid hS2
      have HS3 := Lib.hid hS3
      have HS4 := Lib.hid hS4
      clear hS1 hS2 hS3 hS4 hr
      go_wp2
      try simp only [Act.put]
      refine rest_start (by kernel_rfl) fun v hv => ?_
      have H6 := Lib.hid (show InS w v k a b ∧ Rd v v.heap.size A3 X ∧ Rd v v.heap.size A4 Y from ⟨H.out.1.grow hv, H.out.2.1.grow hv, H.out.2.2.grow hv⟩)
      clear hv H
      refine rest_take (i := 0) rfl (by kernel_rfl) (by kernel_rfl) (by kernel_rfl) (by rfl) (fun w' hg => by go_simp; try with_reducible rfl) ?_
      try simp only [Act.put, List.setIfInBounds_toArray, List.set_cons_zero, List.set_cons_succ]
      refine rest_take (i := 1) rfl (by kernel_rfl) (by kernel_rfl) (by kernel_rfl) (by rfl) (fun w' hg => by go_simp; try with_reducible rfl) ?_
      try simp only [Act.put, List.setIfInBounds_toArray, List.set_cons_zero, List.set_cons_succ]
      refine rest_take (i := 2) rfl (by kernel_rfl) (by kernel_rfl) (by kernel_rfl) (by rfl) (fun w' hg => by go_simp; try with_reducible rfl) ?_
      try simp only [Act.put, List.setIfInBounds_toArray, List.set_cons_zero, List.set_cons_succ]
      refine rest_take (i := 3) rfl (by kernel_rfl) (by kernel_rfl) (by kernel_rfl) (by rfl) (fun w' hg => by have hcv := conv_at (H6.out.2.1.take n) LX.out c3 w' hg; rw [← HS1.out] at hcv; go_simp; try with_reducible rfl) ?_
      try simp only [Act.put, List.setIfInBounds_toArray, List.set_cons_zero, List.set_cons_succ]
      refine rest_take (i := 4) rfl (by kernel_rfl) (by kernel_rfl) (by kernel_rfl) (by rfl) (fun w' hg => by go_simp; try with_reducible rfl) ?_
      try simp only [Act.put, List.setIfInBounds_toArray, List.set_cons_zero, List.set_cons_succ]
      refine rest_take (i := 5) rfl (by kernel_rfl) (by kernel_rfl) (by kernel_rfl) (by rfl) (fun w' hg => by go_simp; try with_reducible rfl) ?_
      try simp only [Act.put, List.setIfInBounds_toArray, List.set_cons_zero, List.set_cons_succ]
      refine rest_take (i := 6) rfl (by kernel_rfl) (by kernel_rfl) (by kernel_rfl) (by rfl) (fun w' hg => by go_simp; try with_reducible rfl) ?_
      try simp only [Act.put, List.setIfInBounds_toArray, List.set_cons_zero, List.set_cons_succ]
      refine rest_take (i := 7) rfl (by kernel_rfl) (by kernel_rfl) (by kernel_rfl) (by rfl) (fun w' hg => by have hcv := conv_at (H6.out.2.2.take n) LY.out c4 w' hg; rw [← HS2.out] at hcv; go_simp; try with_reducible rfl) ?_
      try simp only [Act.put, List.setIfInBounds_toArray, List.set_cons_zero, List.set_cons_succ]
      refine rest_take (i := 8) rfl (by kernel_rfl) (by kernel_rfl) (by kernel_rfl) (by rfl) (fun w' hg => by have hx1 := HE3.out; go_simp; try with_reducible rfl) ?_
      try simp only [Act.put, List.setIfInBounds_toArray, List.set_cons_zero, List.set_cons_succ]
      refine rest_take (i := 9) rfl (by kernel_rfl) (by kernel_rfl) (by kernel_rfl) (by rfl) (fun w' hg => by go_simp; try with_reducible rfl) ?_
      try simp only [Act.put, List.setIfInBounds_toArray, List.set_cons_zero, List.set_cons_succ]
      refine rest_take (i := 10) rfl (by kernel_rfl) (by kernel_rfl) (by kernel_rfl) (by rfl) (fun w' hg => by go_simp; try with_reducible rfl) ?_
      try simp only [Act.put, List.setIfInBounds_toArray, List.set_cons_zero, List.set_cons_succ]
      refine rest_take (i := 11) rfl (by kernel_rfl) (by kernel_rfl) (by kernel_rfl) (by rfl) (fun w' hg => by have hcv := conv_at (H6.out.1.fst.take n) LA.out 64 w' hg; rw [← HS3.out] at hcv; go_simp; try with_reducible rfl) ?_
      try simp only [Act.put, List.setIfInBounds_toArray, List.set_cons_zero, List.set_cons_succ]
      refine rest_take (i := 12) rfl (by kernel_rfl) (by kernel_rfl) (by kernel_rfl) (by rfl) (fun w' hg => by go_simp; try with_reducible rfl) ?_
      try simp only [Act.put, List.setIfInBounds_toArray, List.set_cons_zero, List.set_cons_succ]
      refine rest_take (i := 13) rfl (by kernel_rfl) (by kernel_rfl) (by kernel_rfl) (by rfl) (fun w' hg => by go_simp; try with_reducible rfl) ?_
      try simp only [Act.put, List.setIfInBounds_toArray, List.set_cons_zero, List.set_cons_succ]
      refine rest_take (i := 14) rfl (by kernel_rfl) (by kernel_rfl) (by kernel_rfl) (by rfl) (fun w' hg => by have hcv := conv_at (H6.out.1.snd.take n) LB.out 64 w' hg; rw [← HS4.out] at hcv; go_simp; try with_reducible rfl) ?_
      try simp only [Act.put, List.setIfInBounds_toArray, List.set_cons_zero, List.set_cons_succ]
      refine rest_take (i := 15) rfl (by kernel_rfl) (by kernel_rfl) (by kernel_rfl) (by rfl) (fun w' hg => by have hx1 := HE2.out; go_simp; try with_reducible rfl) ?_
      try simp only [Act.put, List.setIfInBounds_toArray, List.set_cons_zero, List.set_cons_succ]
      refine rest_take (i := 16) rfl (by kernel_rfl) (by kernel_rfl) (by kernel_rfl) (by rfl) (fun w' hg => by go_simp; try with_reducible rfl) ?_
      try simp only [Act.put, List.setIfInBounds_toArray, List.set_cons_zero, List.set_cons_succ]
      refine rest_done (by kernel_rfl) ?_
      go_wp2
      go_roundw
      case rel => exact ⟨j + 1, n + 16, by go_num, by omega, (by show n + 16 = 16 * (j + 1); have := Hn.out; omega), H6.out⟩
      case measure => simp [intOf]; omega
    · have bn : ¬ (n : Int) ≤ 32 := by omega
      have GG := Lib.hid H.out.1.1
      clear H
      go_wp2
      go_ret
      exact ⟨rfl, GG.out⟩
end Go.Proofs.Ytgfmdjagggnfbaa.S9
