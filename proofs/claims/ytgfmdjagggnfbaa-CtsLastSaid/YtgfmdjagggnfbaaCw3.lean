/-
  CtsLast: the walk, out of the program's contracts.
-/
import Derived.Test.YtgfmdjagggnfbaaCwA
import Derived.Test.YtgfmdjagggnfbaaCtB
import Derived.Test.YtgfmdjagggnfbaaApp
namespace Go.Proofs.Ytgfmdjagggnfbaa.S9
open Go.RowKit
open Go.Proofs.Ytgfmdjagggnfbaa.S7 hiding intOf
open Go.Proofs.Ytgfmdjagggnfbaa.S8 (Br sz16 on16 wr64 xorL xorL_len xor_xorL z16)
set_option linter.unusedVariables false
set_option linter.unusedSimpArgs false

theorem cutToL (W : World) (A : Option Addr) (m c d : Nat) (h : d ≤ c) : (Instr.slice 23 (.slice A m c) none (some (.int .i64 (d : Int))) none).run Try.prog W = .ok (.slice A d c) W := by
  obtain ⟨i0, hi, hz0, hz1, hz2⟩ := info_parts info5
  have he : Try.prog.elem 23 = 5 := by kernel_rfl
  rw [run_slice_h W 23 A m c (by rw [he]; exact Try.underlying23) .i64 (d : Int) (by omega) (by omega), he]
  cases A <;> simp [sizeOf, typeInfo, hi, hz1, sliced, Result.andThen, Addr.add]
theorem cutLH (W : World) (A : Option Addr) (m c d e : Nat) (h : d ≤ e) (h2 : e ≤ c) : (Instr.slice 23 (.slice A m c) (some (.int .i64 (d : Int))) (some (.int .i64 (e : Int))) none).run Try.prog W = .ok (.slice (if c = d then A else A.map (·.add d)) (e - d) (c - d)) W := by
  obtain ⟨i0, hi, hz0, hz1, hz2⟩ := info_parts info5
  have he : Try.prog.elem 23 = 5 := by kernel_rfl
  rw [run_slice_lh W 23 A m c (by rw [he]; exact Try.underlying23) .i64 .i64 (d : Int) (e : Int) (by omega) (by omega) (by omega), he]
  simp [sizeOf, typeInfo, hi, hz1, sliced, Result.andThen]
theorem Own.cap {w : World} {base : Nat} {A : Option Addr} {c : Nat} {l : List UInt8} (h : Own w base A c l) : c ≤ maxLen := by
  have h' : w.ownsRow base 5 1 (.slice A l.length c) l.length (bvs l) := h
  rcases h'.2 with ⟨h1, _⟩ | ⟨g, cap, cur, h1, _, _, _, h2, _⟩
  · simp only [Value.slice.injEq] at h1
    obtain ⟨_, _, rfl⟩ := h1
    exact Nat.zero_le _
  · simp only [Value.slice.injEq] at h1
    obtain ⟨_, _, rfl⟩ := h1
    exact h2
def InL (w v : World) (k b : List UInt8) : Prop := Grown w v ∧ Bk v w.heap.size 22 k ∧ Bk v (w.heap.size + 1) 35 b
theorem InL.start (w : World) (k b : List UInt8) : InL w ((w.alloc (.cells (bvs k).toArray 22)).alloc (.cells (bvs b).toArray 35)) k b := ⟨two_grown w _ _, first_new w _ _, two_new w _ _⟩
theorem InL.grow {w v v' : World} {k b : List UInt8} (h : InL w v k b) (hg : Grown v v') : InL w v' k b := ⟨Grown.trans h.1 hg, h.2.1.grow hg, h.2.2.grow hg⟩
theorem InL.key {w v : World} {k b : List UInt8} (h : InL w v k b) : Rd v v.heap.size (some ⟨w.heap.size, 0, none⟩) k := bk_all h.2.1 h.2.1.lt
theorem InL.txt {w v : World} {k b : List UInt8} (h : InL w v k b) : Rd v v.heap.size (some ⟨w.heap.size + 1, 0, none⟩) b := bk_all h.2.2 h.2.2.lt

set_option maxHeartbeats 4000000 in
set_option maxRecDepth 20000 in
theorem last_walk (HE : EncFit) (k b : List UInt8) (x : UInt8) (hk : k.length = 32) (hb : b.length = 48) (w : World) :
    Calls Try.prog 5 #[.agg (bvs k).toArray, .agg (bvs b).toArray, .int .u8 (x.toNat : Int)] w (Says w true) := by
  have he := Lib.hid HE
  have HK := Lib.hid hk
  have HB := Lib.hid hb
  have H0 := Lib.hid (InL.start w k b)
  have CE := Lib.hid (fun G W (B2 : Option Addr) (d bl : Nat) (b2 : List UInt8) v (h : Ci v G W) (hb2 : b2.length = bl) (hbd : bl ≤ d) (hd : d ≤ maxLen) (h1 : 16 ≤ bl) (h2 : bl ≤ 256) (hr : Rd v v.heap.size B2 b2) => HE G W B2 bl d b2 v h hb2 hbd hd hr h1 h2)
  have HBX := Lib.hid (show (b ++ [x]).length = 49 by simp [hb])
  clear HE hk hb
  go_enter Try.func5, Try.ntmps5
  go_wp2_with fail
  generalize (w.alloc _).alloc _ = w0 at H0 ⊢
  refine (awakeC he.out w0).mono ?_
  rintro e w1 ⟨rfl, hg1⟩
  have H1 := Lib.hid (H0.out.grow hg1)
  clear hg1 H0
  go_wp2_with fail
  refine (new_any (some ⟨w.heap.size, 0, none⟩) 32 k HK.out (by omega) _ H1.out.key).mono ?_
  rintro e w2 ⟨G, rfl, _, hCi, hg2⟩
  obtain ⟨W, hW⟩ : ∃ W, W = keysL k := ⟨_, rfl⟩
  rw [← hW] at hCi
  have H2 := Lib.hid (H1.out.grow hg2)
  have C2 := Lib.hid hCi
  clear hg2 hCi H1 hW
  go_wp2_with fail
  refine (CE.out G W (some ⟨w.heap.size + 1, 0, none⟩) 48 48 b _ C2.out HB.out (by omega) (by unfold maxLen; omega) (by omega) (by omega) H2.out.txt).mono ?_
  rintro e w3 ⟨A3, c3, rfl, hl3, hc3, hm3, hr3, hg3⟩
  obtain ⟨X, hX⟩ : ∃ X, X = ctsE W b := ⟨_, rfl⟩
  rw [← hX] at hl3 hr3
  have HX := Lib.hid hX
  have H3 := Lib.hid (H2.out.grow hg3)
  have C3 := Lib.hid (C2.out.grow hg3)
  have R3 := Lib.hid hr3
  have L3 := Lib.hid hl3
  have T3 := Lib.hid (H3.out.txt.grow (alloc_below w3 (.cells (bvs []).toArray 5)))
  clear hg3 H2 C2 hr3 hl3 hm3 hX
  go_wp2_with (first
    | (at_builtin
       refine wpList_app rfl (.tmp 32) (.tmp 33) rfl (base := w3.heap.size) (l := []) (c := 0) rfl (Own.lit w3 [] (Nat.le_refl _) (by simp)) (l2 := b) (by rw [HB.out]; rfl) T3.out (by rw [HB.out]; simp) (by simp) b (by simp) ?_
       intro A4 c4 w4 ho4 hb4
       rw [HB.out]
       have HO4 := Lib.hid ho4
       have G4 := Lib.hid (show Grown w3 w4 from (alloc_below w3 _).trans hb4)
       clear ho4 hb4)
    | (at_builtin
       refine wpList_app rfl (.tmp 34) (.tmp 36) rfl (base := w3.heap.size) (l := b) (by rw [HB.out]; rfl) (HO4.out.grow (alloc_below w4 _)) (l2 := [x]) rfl ((Row.new w4 [x]).rd (Nat.lt_succ_self _)) (by rw [HB.out]; simp) (by have := G4.out.size; simp; omega) (b ++ [x]) rfl ?_
       intro A5 c5 w5 ho5 hb5
       rw [HBX.out]
       have HO5 := Lib.hid ho5
       have G5 := Lib.hid (show Grown w3 w5 from (Below.alloc G4.out G4.out.size _).trans hb5)
       clear ho5 hb5))
  have H5 := Lib.hid (H3.out.grow G5.out)
  have C5 := Lib.hid (C3.out.grow G5.out)
  have R5 := Lib.hid (R3.out.grow G5.out)
  have L5 := Lib.hid (show 49 ≤ c5 by have := HO5.out.le; rwa [HBX.out] at this)
  have M5 := Lib.hid (Own.cap HO5.out)
  have O5 := Lib.hid HO5.out.rd
  clear G4 HO4 HO5 G5 H3 C3 R3 T3
  refine (CE.out G W A5 c5 49 (b ++ [x]) _ C5.out HBX.out L5.out M5.out (by omega) (by omega) O5.out).mono ?_
  rintro e w6 ⟨A6, c6, rfl, hl6, hc6, hm6, hr6, hg6⟩
  obtain ⟨Y, hY⟩ : ∃ Y, Y = ctsE W (b ++ [x]) := ⟨_, rfl⟩
  rw [← hY] at hl6 hr6
  have HY := Lib.hid hY
  have H6 := Lib.hid (H5.out.grow hg6)
  have R6 := Lib.hid (R5.out.grow hg6)
  have S6 := Lib.hid hr6
  have L6 := Lib.hid hl6
  have hsA : ∀ V : World, (Instr.slice 23 (.slice A3 48 c3) none (some (.int .i64 (16 : Int))) none).run Try.prog V = .ok (.slice A3 16 c3) V := fun V => cutToL V A3 48 c3 16 (by omega)
  have hsB : ∀ V : World, (Instr.slice 23 (.slice A6 49 c6) none (some (.int .i64 (16 : Int))) none).run Try.prog V = .ok (.slice A6 16 c6) V := fun V => cutToL V A6 49 c6 16 (by omega)
  obtain ⟨A7, hA7⟩ : ∃ A, A = A3.map (·.add 32) := ⟨_, rfl⟩
  obtain ⟨A8, hA8⟩ : ∃ A, A = A6.map (·.add 16) := ⟨_, rfl⟩
  have hsC : ∀ V : World, (Instr.slice 23 (.slice A3 48 c3) (some (.int .i64 (32 : Int))) (some (.int .i64 (48 : Int))) none).run Try.prog V = .ok (.slice A7 16 (c3 - 32)) V := fun V => by
    have := cutLH V A3 48 c3 32 48 (by omega) (by omega)
    rwa [if_neg (by omega), ← hA7] at this
  have hsD : ∀ V : World, (Instr.slice 23 (.slice A6 49 c6) (some (.int .i64 (16 : Int))) (some (.int .i64 (32 : Int))) none).run Try.prog V = .ok (.slice A8 16 (c6 - 16)) V := fun V => by
    have := cutLH V A6 49 c6 16 32 (by omega) (by omega)
    rwa [if_neg (by omega), ← hA8] at this
  clear hg6 H5 C5 R5 hr6 hl6 hm6 hY O5 M5 L5
  obtain ⟨S1, hS1⟩ : ∃ S : ByteArray, S = ⟨(X.take 16).toArray⟩ := ⟨_, rfl⟩
  obtain ⟨S2, hS2⟩ : ∃ S : ByteArray, S = ⟨(Y.take 16).toArray⟩ := ⟨_, rfl⟩
  obtain ⟨S3, hS3⟩ : ∃ S : ByteArray, S = ⟨((X.drop 32).take 16).toArray⟩ := ⟨_, rfl⟩
  obtain ⟨S4, hS4⟩ : ∃ S : ByteArray, S = ⟨((Y.drop 16).take 16).toArray⟩ := ⟨_, rfl⟩
  have HE1 := Lib.hid (show (S1.toList == S2.toList) = true by
    rw [hS1, hS2, slbeq, HX.out, HY.out]
    exact decide_eq_true (last_first W b x HB.out))
  have HE2 := Lib.hid (show (S3.toList == S4.toList) = true by
    rw [hS3, hS4, slbeq, HX.out, HY.out]
    exact decide_eq_true (last_second W b x HB.out))
  have HS1 := Lib.hid hS1
  have HS2 := Lib.hid hS2
  have HS3 := Lib.hid hS3
  have HS4 := Lib.hid hS4
  have LA := Lib.hid (show (X.take 16).length = 16 by rw [List.length_take, L3.out]; rfl)
  have LB := Lib.hid (show (Y.take 16).length = 16 by rw [List.length_take, L6.out]; rfl)
  have LC := Lib.hid (show ((X.drop 32).take 16).length = 16 by rw [List.length_take, List.length_drop, L3.out]; rfl)
  have LD := Lib.hid (show ((Y.drop 16).take 16).length = 16 by rw [List.length_take, List.length_drop, L6.out]; rfl)
  clear hS1 hS2 hS3 hS4
  go_wp2
  try simp only [Act.put]
  refine rest_start (by kernel_rfl) fun v hv => ?_
  have GG := Lib.hid (H6.out.grow hv).1
  have P1 := Lib.hid ((R6.out.grow hv).take 16)
  have P2 := Lib.hid ((S6.out.grow hv).take 16)
  have P3 := Lib.hid (show Rd v v.heap.size A7 ((X.drop 32).take 16) by
    have := (Rd.cut (R6.out.grow hv) (k := 32) (cap := c3) (by rw [L3.out]; exact hc3)).take 16
    rwa [if_neg (by omega), ← hA7] at this)
  have P4 := Lib.hid (show Rd v v.heap.size A8 ((Y.drop 16).take 16) by
    have := (Rd.cut (S6.out.grow hv) (k := 16) (cap := c6) (by rw [L6.out]; exact hc6)).take 16
    rwa [if_neg (by omega), ← hA8] at this)
  clear hv H6 R6 S6 hA7 hA8
  refine rest_take (i := 0) rfl (by kernel_rfl) (by kernel_rfl) (by kernel_rfl) (by rfl) (fun w' hg => by go_simp; try with_reducible rfl) ?_
  try simp only [Act.put, List.setIfInBounds_toArray, List.set_cons_zero, List.set_cons_succ]
  refine rest_take (i := 1) rfl (by kernel_rfl) (by kernel_rfl) (by kernel_rfl) (by rfl) (fun w' hg => by go_simp; try with_reducible rfl) ?_
  try simp only [Act.put, List.setIfInBounds_toArray, List.set_cons_zero, List.set_cons_succ]
  refine rest_take (i := 2) rfl (by kernel_rfl) (by kernel_rfl) (by kernel_rfl) (by rfl) (fun w' hg => by go_simp; try with_reducible rfl) ?_
  try simp only [Act.put, List.setIfInBounds_toArray, List.set_cons_zero, List.set_cons_succ]
  refine rest_take (i := 3) rfl (by kernel_rfl) (by kernel_rfl) (by kernel_rfl) (by rfl) (fun w' hg => by go_simp; try with_reducible rfl) ?_
  try simp only [Act.put, List.setIfInBounds_toArray, List.set_cons_zero, List.set_cons_succ]
  refine rest_take (i := 4) rfl (by kernel_rfl) (by kernel_rfl) (by kernel_rfl) (by rfl) (fun w' hg => by go_simp; try with_reducible rfl) ?_
  try simp only [Act.put, List.setIfInBounds_toArray, List.set_cons_zero, List.set_cons_succ]
  refine rest_take (i := 5) rfl (by kernel_rfl) (by kernel_rfl) (by kernel_rfl) (by rfl) (fun w' hg => by go_simp; try with_reducible rfl) ?_
  try simp only [Act.put, List.setIfInBounds_toArray, List.set_cons_zero, List.set_cons_succ]
  refine rest_take (i := 6) rfl (by kernel_rfl) (by kernel_rfl) (by kernel_rfl) (by rfl) (fun w' hg => by go_simp; try with_reducible rfl) ?_
  try simp only [Act.put, List.setIfInBounds_toArray, List.set_cons_zero, List.set_cons_succ]
  refine rest_take (i := 7) rfl (by kernel_rfl) (by kernel_rfl) (by kernel_rfl) (by rfl) (fun w' hg => by go_simp; try with_reducible rfl) ?_
  try simp only [Act.put, List.setIfInBounds_toArray, List.set_cons_zero, List.set_cons_succ]
  refine rest_take (i := 8) rfl (by kernel_rfl) (by kernel_rfl) (by kernel_rfl) (by rfl) (fun w' hg => by go_simp; try with_reducible rfl) ?_
  try simp only [Act.put, List.setIfInBounds_toArray, List.set_cons_zero, List.set_cons_succ]
  refine rest_take (i := 9) rfl (by kernel_rfl) (by kernel_rfl) (by kernel_rfl) (by rfl) (fun w' hg => by go_simp; try with_reducible rfl) ?_
  try simp only [Act.put, List.setIfInBounds_toArray, List.set_cons_zero, List.set_cons_succ]
  refine rest_take (i := 10) rfl (by kernel_rfl) (by kernel_rfl) (by kernel_rfl) (by rfl) (fun w' hg => by go_simp; try with_reducible rfl) ?_
  try simp only [Act.put, List.setIfInBounds_toArray, List.set_cons_zero, List.set_cons_succ]
  refine rest_take (i := 11) rfl (by kernel_rfl) (by kernel_rfl) (by kernel_rfl) (by rfl) (fun w' hg => by go_simp; try with_reducible rfl) ?_
  try simp only [Act.put, List.setIfInBounds_toArray, List.set_cons_zero, List.set_cons_succ]
  refine rest_take (i := 12) rfl (by kernel_rfl) (by kernel_rfl) (by kernel_rfl) (by rfl) (fun w' hg => by go_simp; try with_reducible rfl) ?_
  try simp only [Act.put, List.setIfInBounds_toArray, List.set_cons_zero, List.set_cons_succ]
  refine rest_take (i := 13) rfl (by kernel_rfl) (by kernel_rfl) (by kernel_rfl) (by rfl) (fun w' hg => by go_simp; try with_reducible rfl) ?_
  try simp only [Act.put, List.setIfInBounds_toArray, List.set_cons_zero, List.set_cons_succ]
  refine rest_take (i := 14) rfl (by kernel_rfl) (by kernel_rfl) (by kernel_rfl) (by rfl) (fun w' hg => by go_simp; try with_reducible rfl) ?_
  try simp only [Act.put, List.setIfInBounds_toArray, List.set_cons_zero, List.set_cons_succ]
  refine rest_take (i := 15) rfl (by kernel_rfl) (by kernel_rfl) (by kernel_rfl) (by rfl) (fun w' hg => by go_simp; try with_reducible rfl) ?_
  try simp only [Act.put, List.setIfInBounds_toArray, List.set_cons_zero, List.set_cons_succ]
  refine rest_take (i := 16) rfl (by kernel_rfl) (by kernel_rfl) (by kernel_rfl) (by rfl) (fun w' hg => by go_simp; try with_reducible rfl) ?_
  try simp only [Act.put, List.setIfInBounds_toArray, List.set_cons_zero, List.set_cons_succ]
  refine rest_take (i := 17) rfl (by kernel_rfl) (by kernel_rfl) (by kernel_rfl) (by rfl) (fun w' hg => by go_simp; try with_reducible rfl) ?_
  try simp only [Act.put, List.setIfInBounds_toArray, List.set_cons_zero, List.set_cons_succ]
  refine rest_take (i := 18) rfl (by kernel_rfl) (by kernel_rfl) (by kernel_rfl) (by rfl) (fun w' hg => by go_simp; try with_reducible rfl) ?_
  try simp only [Act.put, List.setIfInBounds_toArray, List.set_cons_zero, List.set_cons_succ]
  refine rest_take (i := 19) rfl (by kernel_rfl) (by kernel_rfl) (by kernel_rfl) (by rfl) (fun w' hg => by have hcv := conv_at P1.out LA.out c3 w' hg; rw [← HS1.out] at hcv; go_simp; try with_reducible rfl) ?_
  try simp only [Act.put, List.setIfInBounds_toArray, List.set_cons_zero, List.set_cons_succ]
  refine rest_take (i := 20) rfl (by kernel_rfl) (by kernel_rfl) (by kernel_rfl) (by rfl) (fun w' hg => by go_simp; try with_reducible rfl) ?_
  try simp only [Act.put, List.setIfInBounds_toArray, List.set_cons_zero, List.set_cons_succ]
  refine rest_take (i := 21) rfl (by kernel_rfl) (by kernel_rfl) (by kernel_rfl) (by rfl) (fun w' hg => by go_simp; try with_reducible rfl) ?_
  try simp only [Act.put, List.setIfInBounds_toArray, List.set_cons_zero, List.set_cons_succ]
  refine rest_take (i := 22) rfl (by kernel_rfl) (by kernel_rfl) (by kernel_rfl) (by rfl) (fun w' hg => by have hcv := conv_at P2.out LB.out c6 w' hg; rw [← HS2.out] at hcv; go_simp; try with_reducible rfl) ?_
  try simp only [Act.put, List.setIfInBounds_toArray, List.set_cons_zero, List.set_cons_succ]
  refine rest_take (i := 23) rfl (by kernel_rfl) (by kernel_rfl) (by kernel_rfl) (by rfl) (fun w' hg => by have hx1 := HE1.out; go_simp; try with_reducible rfl) ?_
  try simp only [Act.put, List.setIfInBounds_toArray, List.set_cons_zero, List.set_cons_succ]
  refine rest_take (i := 24) rfl (by kernel_rfl) (by kernel_rfl) (by kernel_rfl) (by rfl) (fun w' hg => by go_simp; try with_reducible rfl) ?_
  try simp only [Act.put, List.setIfInBounds_toArray, List.set_cons_zero, List.set_cons_succ]
  refine rest_take (i := 25) rfl (by kernel_rfl) (by kernel_rfl) (by kernel_rfl) (by rfl) (fun w' hg => by go_simp; try with_reducible rfl) ?_
  try simp only [Act.put, List.setIfInBounds_toArray, List.set_cons_zero, List.set_cons_succ]
  refine rest_take (i := 26) rfl (by kernel_rfl) (by kernel_rfl) (by kernel_rfl) (by rfl) (fun w' hg => by go_simp; try with_reducible rfl) ?_
  try simp only [Act.put, List.setIfInBounds_toArray, List.set_cons_zero, List.set_cons_succ]
  refine rest_take (i := 27) rfl (by kernel_rfl) (by kernel_rfl) (by kernel_rfl) (by rfl) (fun w' hg => by go_simp; try with_reducible rfl) ?_
  try simp only [Act.put, List.setIfInBounds_toArray, List.set_cons_zero, List.set_cons_succ]
  refine rest_take (i := 28) rfl (by kernel_rfl) (by kernel_rfl) (by kernel_rfl) (by rfl) (fun w' hg => by have hcv := conv_at P3.out LC.out (c3 - 32) w' hg; rw [← HS3.out] at hcv; go_simp; try with_reducible rfl) ?_
  try simp only [Act.put, List.setIfInBounds_toArray, List.set_cons_zero, List.set_cons_succ]
  refine rest_take (i := 29) rfl (by kernel_rfl) (by kernel_rfl) (by kernel_rfl) (by rfl) (fun w' hg => by go_simp; try with_reducible rfl) ?_
  try simp only [Act.put, List.setIfInBounds_toArray, List.set_cons_zero, List.set_cons_succ]
  refine rest_take (i := 30) rfl (by kernel_rfl) (by kernel_rfl) (by kernel_rfl) (by rfl) (fun w' hg => by go_simp; try with_reducible rfl) ?_
  try simp only [Act.put, List.setIfInBounds_toArray, List.set_cons_zero, List.set_cons_succ]
  refine rest_take (i := 31) rfl (by kernel_rfl) (by kernel_rfl) (by kernel_rfl) (by rfl) (fun w' hg => by have hcv := conv_at P4.out LD.out (c6 - 16) w' hg; rw [← HS4.out] at hcv; go_simp; try with_reducible rfl) ?_
  try simp only [Act.put, List.setIfInBounds_toArray, List.set_cons_zero, List.set_cons_succ]
  refine rest_take (i := 32) rfl (by kernel_rfl) (by kernel_rfl) (by kernel_rfl) (by rfl) (fun w' hg => by have hx1 := HE2.out; go_simp; try with_reducible rfl) ?_
  try simp only [Act.put, List.setIfInBounds_toArray, List.set_cons_zero, List.set_cons_succ]
  refine rest_take (i := 33) rfl (by kernel_rfl) (by kernel_rfl) (by kernel_rfl) (by rfl) (fun w' hg => by go_simp; try with_reducible rfl) ?_
  try simp only [Act.put, List.setIfInBounds_toArray, List.set_cons_zero, List.set_cons_succ]
  refine rest_take (i := 34) rfl (by kernel_rfl) (by kernel_rfl) (by kernel_rfl) (by rfl) (fun w' hg => by go_simp; try with_reducible rfl) ?_
  try simp only [Act.put, List.setIfInBounds_toArray, List.set_cons_zero, List.set_cons_succ]
  refine rest_done (by kernel_rfl) ?_
  go_wp2
  go_ret
  exact ⟨rfl, GG.out⟩
end Go.Proofs.Ytgfmdjagggnfbaa.S9
