/-
  XtsPlaces: the walk, out of the program's contracts.
-/
import Derived.Test.YtbgbfofghhiolaaXw2
namespace Go.Proofs.Ytbgbfofghhiolaa.S8
open Go.RowKit
open Go.Proofs.Ytbgbfofghhiolaa.S7 hiding intOf
set_option linter.unusedVariables false
set_option linter.unusedSimpArgs false

def InP (w v : World) (k : List UInt8) (x y : Int) (b : List UInt8) : Prop := Grown w v ∧ Bk v w.heap.size 29 k ∧ v.heap[w.heap.size + 1]? = some (.cells #[.int .i64 x, .int .i64 y] 33 (0, 0)) ∧ Bk v (w.heap.size + 1 + 1) 29 b
section
variable {w v v' : World} {k b : List UInt8} {x y : Int}
theorem InP.grow (h : InP w v k x y b) (hg : Grown v v') : InP w v' k x y b := ⟨Grown.trans h.1 hg, h.2.1.grow hg, (hg.block _ (lt_of_heap h.2.2.1)).trans h.2.2.1, h.2.2.2.grow hg⟩
theorem InP.num (h : InP w v k x y b) : v.cell? ⟨w.heap.size + 1, 0, none⟩ = some (.int .i64 x) := by rw [cell_of_row v _ 0 _ _ _ h.2.2.1]; rfl
theorem InP.num1 (h : InP w v k x y b) : v.cell? ⟨w.heap.size + 1, 1, none⟩ = some (.int .i64 y) := by rw [cell_of_row v _ 1 _ _ _ h.2.2.1]; rfl
theorem InP.key (h : InP w v k x y b) : Rd v v.heap.size (some ⟨w.heap.size, 0, none⟩) k := bk_whole h.2.1 h.2.1.lt
theorem InP.txt (h : InP w v k x y b) : Rd v v.heap.size (some ⟨w.heap.size + 1 + 1, 0, none⟩) b := bk_whole h.2.2.2 h.2.2.2.lt
end
theorem InP.start (w : World) (k : List UInt8) (x y : Int) (b : List UInt8) : InP w (((w.alloc (.cells (bvs k).toArray 29)).alloc (.cells #[.int .i64 x, .int .i64 y] 33)).alloc (.cells (bvs b).toArray 29)) k x y b := by
  have h1 : Bk ((w.alloc (.cells (bvs k).toArray 29)).alloc (.cells #[.int .i64 x, .int .i64 y] 33)) w.heap.size 29 k := first_new w _ _
  have h2 : ((w.alloc (.cells (bvs k).toArray 29)).alloc (.cells #[.int .i64 x, .int .i64 y] 33)).heap[w.heap.size + 1]? = some (.cells #[.int .i64 x, .int .i64 y] 33 (0, 0)) := two_new w _ _
  refine ⟨Grown.trans (two_grown w _ _) (alloc_below _ _), h1.alloc _, (Below.heap_alloc _ _ _ (lt_of_heap h2)).trans h2, ?_⟩
  have := two_new (w.alloc (.cells (bvs k).toArray 29)) (.cells #[.int .i64 x, .int .i64 y] 33) (.cells (bvs b).toArray 29)
  simpa [Bk] using this
theorem u64A : Try.prog.underlying 29 = some (.array 64 5) := by kernel_rfl
theorem cut_64h (W : World) (g e : Nat) (he : e ≤ 64) : (Instr.sliceAt 29 (.pointer (some ⟨g, 0, none⟩)) none (some (.int .i64 (e : Int))) none).run Try.prog W = .ok (.slice (some ⟨g, 0, none⟩) e 64) W := by
  obtain ⟨i0, hi0, hz0, hz1, hz2⟩ := info_parts info5
  have hel : Try.prog.elem 29 = 5 := by kernel_rfl
  have hl : Try.prog.arrayLen 29 = 64 := by kernel_rfl
  rw [run_sliceAt_array_h (P := Try.prog) W 29 ⟨g, 0, none⟩ (by rw [hel, hl]; exact u64A) .i64 (e : Int) (by omega) (by rw [hl]; omega), hel, hl]
  simp [sizeOf, typeInfo, hi0, hz1, slicedAt, Result.andThen, Addr.add]
theorem cut_num4 (x : Int) : ∃ (x2 a : Nat), IntKind.i64.wrap (x.tmod 4 + 4) = (x2 : Int) ∧ (x2 : Int).tmod 4 = (a : Int) ∧ a < 4 := by
  have h1 : x.tmod 4 < 4 := Int.tmod_lt_of_pos x (by omega)
  have h2 : -(4 : Int) < x.tmod 4 := Int.lt_tmod_of_pos x (by omega)
  refine ⟨(x.tmod 4 + 4).toNat, (x.tmod 4 + 4).toNat % 4, ?_, rfl, Nat.mod_lt _ (by omega)⟩
  rw [IntKind.wrap_i64]; omega

set_option maxHeartbeats 4000000 in
set_option maxRecDepth 20000 in
theorem places_neg (HNE : EncNo) (HE : EncOk) (k b : List UInt8) (x y : Int) (hn : x < 0) (w : World) :
    Calls Try.prog 5 #[.agg (bvs k).toArray, .agg #[.int .i64 x, .int .i64 y], .agg (bvs b).toArray] w (Says w true) := by
  have hne := Lib.hid HNE
  have he := Lib.hid HE
  clear HNE HE
  have H0 := Lib.hid (InP.start w k x y b)
  go_enter Try.func5, Try.ntmps5
  go_wp2_with fail
  generalize ((w.alloc _).alloc _).alloc _ = w0 at H0 ⊢
  refine (awakeX hne.out he.out w0).mono ?_
  rintro e w1 ⟨rfl, hg1⟩
  have H1 := Lib.hid (H0.out.grow hg1)
  have G1 := Lib.hid H1.out.1
  have hc := H1.out.num
  clear hg1 H0
  go_wp2_with fail
  refine (awakeX_twice hne.out he.out w w1 G1.out).mono ?_
  rintro e w2 ⟨rfl, hg2⟩
  have G2 := Lib.hid hg2
  clear hg2 G1
  go_wp2
  go_ret
  exact ⟨rfl, G2.out⟩

set_option maxHeartbeats 4000000 in
set_option maxRecDepth 20000 in
theorem places_pos (HNE : EncNo) (HE : EncOk) (HD : DecOk) (k b : List UInt8) (n : Nat) (y : Int) (hk : k.length = 64) (hb : b.length = 64) (hn : n < 9223372036854775808) (w : World) :
    Calls Try.prog 5 #[.agg (bvs k).toArray, .agg #[.int .i64 (n : Int), .int .i64 y], .agg (bvs b).toArray] w (Says w true) := by
  have hne := Lib.hid HNE
  have he := Lib.hid HE
  obtain ⟨x2, a, E1, E2, ha⟩ := cut_num4 y
  obtain ⟨j, hj⟩ : ∃ j, j = 1 + a := ⟨_, rfl⟩
  obtain ⟨kk, hkk⟩ : ∃ kk, kk = 16 * j := ⟨_, rfl⟩
  have E3 : (1 : Int) + (a : Int) = (j : Int) := by omega
  have E4 : IntKind.i64.wrap (j : Int) = (j : Int) := wr64 j (by omega)
  have E5 : (16 : Int) * (j : Int) = (kk : Int) := by omega
  have E6 : IntKind.i64.wrap (kk : Int) = (kk : Int) := wr64 kk (by omega)
  have E7 : (x2 : Int) % 4 = (a : Int) := by rw [← E2]; exact (Int.tmod_eq_emod_of_nonneg (by omega)).symm
  have hj4 : j ≤ 4 := by omega
  have hj1 : 1 ≤ j := by omega
  have hk64 : kk ≤ 64 := by omega
  have HBl := Lib.hid hb
  have HKK := Lib.hid hkk
  have bn : decide ((n : Int) < 0) = false := by simp
  have H0 := Lib.hid (InP.start w k (n : Int) y b)
  have CE := Lib.hid (fun (B : Option Addr) (d kb bl : Nat) (b2 : List UInt8) v (h1 : Rd v v.heap.size (some ⟨w.heap.size, 0, none⟩) k) (hb2 : b2.length = bl) (hkb : bl = 16 * kb) (h1' : 1 ≤ kb) (h2' : kb ≤ 64) (hd : bl ≤ d) (hd2 : d ≤ maxLen) (h2 : Rd v v.heap.size B b2) => HE (some ⟨w.heap.size, 0, none⟩) B 64 bl d n kb k b2 v hk (by omega) (by unfold maxLen; omega) h1 hn hb2 hkb h1' h2' hd hd2 h2)
  have CD := Lib.hid (fun (B : Option Addr) (d kb bl : Nat) (b2 : List UInt8) v (h1 : Rd v v.heap.size (some ⟨w.heap.size, 0, none⟩) k) (hb2 : b2.length = bl) (hkb : bl = 16 * kb) (h1' : 1 ≤ kb) (h2' : kb ≤ 64) (hd : bl ≤ d) (hd2 : d ≤ maxLen) (h2 : Rd v v.heap.size B b2) => HD (some ⟨w.heap.size, 0, none⟩) B 64 bl d n kb k b2 v hk (by omega) (by unfold maxLen; omega) h1 hn hb2 hkb h1' h2' hd hd2 h2)
  obtain ⟨P, hP⟩ : ∃ P, P = b.take kk := ⟨_, rfl⟩
  have HPl := Lib.hid (show P.length = kk by rw [hP, List.length_take, hb]; omega)
  have HP := Lib.hid hP
  obtain ⟨X, hX⟩ : ∃ X, X = xtE (wK1 k) (wK2 k) n b 4 := ⟨_, rfl⟩
  obtain ⟨Y, hY⟩ : ∃ Y, Y = xtE (wK1 k) (wK2 k) n P j := ⟨_, rfl⟩
  have HXY := Lib.hid (show X.take kk = Y by rw [hX, hY, hP, hkk]; exact xtE_take _ _ n b 4 j hj4)
  have HYP := Lib.hid (show xtD (wK1 k) (wK2 k) n Y j = P by rw [hY]; exact xtD_xtE _ _ n P j (by rw [HPl.out, hkk]))
  have HX := Lib.hid hX
  have HY := Lib.hid hY
  have hmn : ∀ (ts : Array TypeId) (ty : TypeId) (W : World), (Builtin.min_ ts ty #[.int .i64 64, .int .i64 (kk : Int)]).run Try.prog W = .ok (.int .i64 (kk : Int)) W := fun ts ty W => by
    rw [run_min_int2]
    by_cases h : (kk : Int) < 64
    · rw [if_pos h]
    · rw [if_neg h, show (kk : Int) = 64 by omega]
  have hs2 : ∀ V : World, (Instr.sliceAt 29 (.pointer (some ⟨w.heap.size + 1 + 1, 0, none⟩)) none (some (.int .i64 (kk : Int))) none).run Try.prog V = .ok (.slice (some ⟨w.heap.size + 1 + 1, 0, none⟩) kk 64) V := fun V => cut_64h V _ kk hk64
  obtain ⟨SY, hSY⟩ : ∃ S : ByteArray, S = ⟨Y.toArray⟩ := ⟨_, rfl⟩
  obtain ⟨SP, hSP⟩ : ∃ S : ByteArray, S = ⟨P.toArray⟩ := ⟨_, rfl⟩
  have HSY := Lib.hid hSY
  have HSP := Lib.hid hSP
  clear HNE HE HD hk hb hj hkk hP hX hY hSY hSP E2
  have E2 : (x2 : Int).tmod 4 = (a : Int) := by rw [Int.tmod_eq_emod_of_nonneg (by omega)]; exact E7
  go_enter Try.func5, Try.ntmps5
  go_wp2_with fail
  generalize ((w.alloc _).alloc _).alloc _ = w0 at H0 ⊢
  refine (awakeX hne.out he.out w0).mono ?_
  rintro e w1 ⟨rfl, hg1⟩
  have H1 := Lib.hid (H0.out.grow hg1)
  have hc0 := H1.out.num
  have hc1 := H1.out.num1
  clear hg1 H0
  go_wp2
  clear hc0 hc1
  try simp only [Act.put]
  refine rest_start (by kernel_rfl) fun v hv => ?_
  have H2 := Lib.hid (H1.out.grow hv)
  clear hv H1
  refine rest_take (i := 0) rfl (by kernel_rfl) (by kernel_rfl) (by kernel_rfl) (by rfl) (fun w' hg => by go_simp; try with_reducible rfl) ?_
  try simp only [Act.put, List.setIfInBounds_toArray, List.set_cons_zero, List.set_cons_succ]
  refine rest_take (i := 1) rfl (by kernel_rfl) (by kernel_rfl) (by kernel_rfl) (by rfl) (fun w' hg => by go_simp; try with_reducible rfl) ?_
  try simp only [Act.put, List.setIfInBounds_toArray, List.set_cons_zero, List.set_cons_succ]
  refine rest_take (i := 2) rfl (by kernel_rfl) (by kernel_rfl) (by kernel_rfl) (by rfl) (fun w' hg => by have hcl := (H2.out.grow hg).num; go_simp; try with_reducible rfl) ?_
  try simp only [Act.put, List.setIfInBounds_toArray, List.set_cons_zero, List.set_cons_succ]
  refine rest_take (i := 3) rfl (by kernel_rfl) (by kernel_rfl) (by kernel_rfl) (by rfl) (fun w' hg => by go_simp; try with_reducible rfl) ?_
  try simp only [Act.put, List.setIfInBounds_toArray, List.set_cons_zero, List.set_cons_succ]
  refine rest_lone (i := 4) rfl (by kernel_rfl) (by rfl) (fun K hK => ?_)
  go_simp
  refine (CE.out (some ⟨w.heap.size + 1 + 1, 0, none⟩) 64 4 64 b _ H2.out.key HBl.out (by omega) (by omega) (by omega) (by omega) (by unfold maxLen; omega) H2.out.txt).mono ?_
  rintro e w3 ⟨A3, c3, rfl, hl3, hc3, hm3, hr3, hg3⟩
  rw [← HX.out] at hl3 hr3
  have H3 := Lib.hid (H2.out.grow hg3)
  have R3 := Lib.hid hr3
  have L3 := Lib.hid hl3
  have M3 := Lib.hid hm3
  refine hK.out _ _ hg3 ?_
  clear hK K hg3 H2 hr3 hl3 hm3
  try simp only [Act.put, List.setIfInBounds_toArray, List.set_cons_zero, List.set_cons_succ]
  refine rest_take (i := 5) rfl (by kernel_rfl) (by kernel_rfl) (by kernel_rfl) (by rfl) (fun w' hg => by go_simp; try with_reducible rfl) ?_
  try simp only [Act.put, List.setIfInBounds_toArray, List.set_cons_zero, List.set_cons_succ]
  refine rest_take (i := 6) rfl (by kernel_rfl) (by kernel_rfl) (by kernel_rfl) (by rfl) (fun w' hg => by go_simp; try with_reducible rfl) ?_
  try simp only [Act.put, List.setIfInBounds_toArray, List.set_cons_zero, List.set_cons_succ]
  refine rest_take (i := 7) rfl (by kernel_rfl) (by kernel_rfl) (by kernel_rfl) (by rfl) (fun w' hg => by go_simp; try with_reducible rfl) ?_
  try simp only [Act.put, List.setIfInBounds_toArray, List.set_cons_zero, List.set_cons_succ]
  refine rest_take (i := 8) rfl (by kernel_rfl) (by kernel_rfl) (by kernel_rfl) (by rfl) (fun w' hg => by go_simp; try with_reducible rfl) ?_
  try simp only [Act.put, List.setIfInBounds_toArray, List.set_cons_zero, List.set_cons_succ]
  refine rest_take (i := 9) rfl (by kernel_rfl) (by kernel_rfl) (by kernel_rfl) (by rfl) (fun w' hg => by go_simp; try with_reducible rfl) ?_
  try simp only [Act.put, List.setIfInBounds_toArray, List.set_cons_zero, List.set_cons_succ]
  refine rest_done (by kernel_rfl) ?_
  have hs3 : ∀ V : World, (Instr.slice 22 (.slice A3 64 c3) none (some (.int .i64 (kk : Int))) none).run Try.prog V = .ok (.slice A3 kk c3) V := fun V => cut_h V A3 64 c3 kk (by omega)
  go_wp2
  try simp only [Act.put]
  refine rest_start (by kernel_rfl) fun v hv => ?_
  have H4 := Lib.hid (H3.out.grow hv)
  replace R3 := Lib.hid (R3.out.grow hv)
  clear hv H3
  refine rest_take (i := 0) rfl (by kernel_rfl) (by kernel_rfl) (by kernel_rfl) (by rfl) (fun w' hg => by go_simp; try with_reducible rfl) ?_
  try simp only [Act.put, List.setIfInBounds_toArray, List.set_cons_zero, List.set_cons_succ]
  refine rest_take (i := 1) rfl (by kernel_rfl) (by kernel_rfl) (by kernel_rfl) (by rfl) (fun w' hg => by go_simp; try with_reducible rfl) ?_
  try simp only [Act.put, List.setIfInBounds_toArray, List.set_cons_zero, List.set_cons_succ]
  refine rest_take (i := 2) rfl (by kernel_rfl) (by kernel_rfl) (by kernel_rfl) (by rfl) (fun w' hg => by have hcl := (H4.out.grow hg).num; go_simp; try with_reducible rfl) ?_
  try simp only [Act.put, List.setIfInBounds_toArray, List.set_cons_zero, List.set_cons_succ]
  refine rest_take (i := 3) rfl (by kernel_rfl) (by kernel_rfl) (by kernel_rfl) (by rfl) (fun w' hg => by go_simp; try with_reducible rfl) ?_
  try simp only [Act.put, List.setIfInBounds_toArray, List.set_cons_zero, List.set_cons_succ]
  refine rest_take (i := 4) rfl (by kernel_rfl) (by kernel_rfl) (by kernel_rfl) (by rfl) (fun w' hg => by go_simp; try with_reducible rfl) ?_
  try simp only [Act.put, List.setIfInBounds_toArray, List.set_cons_zero, List.set_cons_succ]
  refine rest_lone (i := 5) rfl (by kernel_rfl) (by rfl) (fun K hK => ?_)
  go_simp
  refine (CE.out (some ⟨w.heap.size + 1 + 1, 0, none⟩) 64 j kk P _ H4.out.key HPl.out HKK.out hj1 (by omega) hk64 (by unfold maxLen; omega) (by rw [HP.out]; exact H4.out.txt.take kk)).mono ?_
  rintro e w5 ⟨A5, c5, rfl, hl5, hc5, hm5, hr5, hg5⟩
  rw [← HY.out] at hl5 hr5
  have H5 := Lib.hid (H4.out.grow hg5)
  replace R3 := Lib.hid (R3.out.grow hg5)
  have R5 := Lib.hid hr5
  have L5 := Lib.hid hl5
  refine hK.out _ _ hg5 ?_
  clear hK K hg5 H4 hr5 hl5 hm5
  try simp only [Act.put, List.setIfInBounds_toArray, List.set_cons_zero, List.set_cons_succ]
  refine rest_take (i := 6) rfl (by kernel_rfl) (by kernel_rfl) (by kernel_rfl) (by rfl) (fun w' hg => by go_simp; try with_reducible rfl) ?_
  try simp only [Act.put, List.setIfInBounds_toArray, List.set_cons_zero, List.set_cons_succ]
  refine rest_take (i := 7) rfl (by kernel_rfl) (by kernel_rfl) (by kernel_rfl) (by rfl) (fun w' hg => by go_simp; try with_reducible rfl) ?_
  try simp only [Act.put, List.setIfInBounds_toArray, List.set_cons_zero, List.set_cons_succ]
  refine rest_take (i := 8) rfl (by kernel_rfl) (by kernel_rfl) (by kernel_rfl) (by rfl) (fun w' hg => by go_simp; try with_reducible rfl) ?_
  try simp only [Act.put, List.setIfInBounds_toArray, List.set_cons_zero, List.set_cons_succ]
  refine rest_take (i := 9) rfl (by kernel_rfl) (by kernel_rfl) (by kernel_rfl) (by rfl) (fun w' hg => by go_simp; try with_reducible rfl) ?_
  try simp only [Act.put, List.setIfInBounds_toArray, List.set_cons_zero, List.set_cons_succ]
  refine rest_take (i := 10) rfl (by kernel_rfl) (by kernel_rfl) (by kernel_rfl) (by rfl) (fun w' hg => by go_simp; try with_reducible rfl) ?_
  try simp only [Act.put, List.setIfInBounds_toArray, List.set_cons_zero, List.set_cons_succ]
  refine rest_done (by kernel_rfl) ?_
  go_wp2
  try simp only [Act.put]
  refine rest_start (by kernel_rfl) fun v hv => ?_
  have H6 := Lib.hid (H5.out.grow hv)
  replace R3 := Lib.hid (R3.out.grow hv)
  replace R5 := Lib.hid (R5.out.grow hv)
  clear hv H5
  refine rest_take (i := 0) rfl (by kernel_rfl) (by kernel_rfl) (by kernel_rfl) (by rfl) (fun w' hg => by go_simp; try with_reducible rfl) ?_
  try simp only [Act.put, List.setIfInBounds_toArray, List.set_cons_zero, List.set_cons_succ]
  refine rest_take (i := 1) rfl (by kernel_rfl) (by kernel_rfl) (by kernel_rfl) (by rfl) (fun w' hg => by go_simp; try with_reducible rfl) ?_
  try simp only [Act.put, List.setIfInBounds_toArray, List.set_cons_zero, List.set_cons_succ]
  refine rest_take (i := 2) rfl (by kernel_rfl) (by kernel_rfl) (by kernel_rfl) (by rfl) (fun w' hg => by have hcl := (H6.out.grow hg).num; go_simp; try with_reducible rfl) ?_
  try simp only [Act.put, List.setIfInBounds_toArray, List.set_cons_zero, List.set_cons_succ]
  refine rest_take (i := 3) rfl (by kernel_rfl) (by kernel_rfl) (by kernel_rfl) (by rfl) (fun w' hg => by go_simp; try with_reducible rfl) ?_
  try simp only [Act.put, List.setIfInBounds_toArray, List.set_cons_zero, List.set_cons_succ]
  refine rest_take (i := 4) rfl (by kernel_rfl) (by kernel_rfl) (by kernel_rfl) (by rfl) (fun w' hg => by go_simp; try with_reducible rfl) ?_
  try simp only [Act.put, List.setIfInBounds_toArray, List.set_cons_zero, List.set_cons_succ]
  refine rest_take (i := 5) rfl (by kernel_rfl) (by kernel_rfl) (by kernel_rfl) (by rfl) (fun w' hg => by go_simp; try with_reducible rfl) ?_
  try simp only [Act.put, List.setIfInBounds_toArray, List.set_cons_zero, List.set_cons_succ]
  refine rest_take (i := 6) rfl (by kernel_rfl) (by kernel_rfl) (by kernel_rfl) (by rfl) (fun w' hg => by go_simp; try with_reducible rfl) ?_
  try simp only [Act.put, List.setIfInBounds_toArray, List.set_cons_zero, List.set_cons_succ]
  refine rest_take (i := 7) rfl (by kernel_rfl) (by kernel_rfl) (by kernel_rfl) (by rfl) (fun w' hg => by go_simp; try with_reducible rfl) ?_
  try simp only [Act.put, List.setIfInBounds_toArray, List.set_cons_zero, List.set_cons_succ]
  refine rest_take (i := 8) rfl (by kernel_rfl) (by kernel_rfl) (by kernel_rfl) (by rfl) (fun w' hg => by go_simp; try with_reducible rfl) ?_
  try simp only [Act.put, List.setIfInBounds_toArray, List.set_cons_zero, List.set_cons_succ]
  refine rest_lone (i := 9) rfl (by kernel_rfl) (by rfl) (fun K hK => ?_)
  go_simp
  refine (CD.out A3 c3 j kk Y _ H6.out.key L5.out HKK.out hj1 (by omega) (by omega) M3.out (by rw [← HXY.out]; exact R3.out.take kk)).mono ?_
  rintro e w7 ⟨A7, c7, rfl, hl7, hc7, hm7, hr7, hg7⟩
  rw [HYP.out] at hl7 hr7
  have H7 := Lib.hid (H6.out.grow hg7)
  replace R3 := Lib.hid (R3.out.grow hg7)
  replace R5 := Lib.hid (R5.out.grow hg7)
  have R7 := Lib.hid hr7
  refine hK.out _ _ hg7 ?_
  clear hK K hg7 H6 hr7 hl7 hm7
  try simp only [Act.put, List.setIfInBounds_toArray, List.set_cons_zero, List.set_cons_succ]
  refine rest_take (i := 10) rfl (by kernel_rfl) (by kernel_rfl) (by kernel_rfl) (by rfl) (fun w' hg => by go_simp; try with_reducible rfl) ?_
  try simp only [Act.put, List.setIfInBounds_toArray, List.set_cons_zero, List.set_cons_succ]
  refine rest_take (i := 11) rfl (by kernel_rfl) (by kernel_rfl) (by kernel_rfl) (by rfl) (fun w' hg => by go_simp; try with_reducible rfl) ?_
  try simp only [Act.put, List.setIfInBounds_toArray, List.set_cons_zero, List.set_cons_succ]
  refine rest_take (i := 12) rfl (by kernel_rfl) (by kernel_rfl) (by kernel_rfl) (by rfl) (fun w' hg => by go_simp; try with_reducible rfl) ?_
  try simp only [Act.put, List.setIfInBounds_toArray, List.set_cons_zero, List.set_cons_succ]
  refine rest_take (i := 13) rfl (by kernel_rfl) (by kernel_rfl) (by kernel_rfl) (by rfl) (fun w' hg => by go_simp; try with_reducible rfl) ?_
  try simp only [Act.put, List.setIfInBounds_toArray, List.set_cons_zero, List.set_cons_succ]
  refine rest_take (i := 14) rfl (by kernel_rfl) (by kernel_rfl) (by kernel_rfl) (by rfl) (fun w' hg => by go_simp; try with_reducible rfl) ?_
  try simp only [Act.put, List.setIfInBounds_toArray, List.set_cons_zero, List.set_cons_succ]
  refine rest_done (by kernel_rfl) ?_
  go_wp2
  try simp only [Act.put]
  refine rest_start (by kernel_rfl) fun v hv => ?_
  have H8 := Lib.hid (H7.out.grow hv)
  have RX := Lib.hid (show Rd v v.heap.size A3 Y by rw [← HXY.out]; exact (R3.out.grow hv).take kk)
  replace R5 := Lib.hid (R5.out.grow hv)
  replace R7 := Lib.hid (R7.out.grow hv)
  have RB := Lib.hid (show Rd v v.heap.size (some ⟨w.heap.size + 1 + 1, 0, none⟩) P by rw [HP.out]; exact (H7.out.grow hv).txt.take kk)
  clear hv H7 R3
  refine rest_take (i := 0) rfl (by kernel_rfl) (by kernel_rfl) (by kernel_rfl) (by rfl) (fun w' hg => by go_simp; try with_reducible rfl) ?_
  try simp only [Act.put, List.setIfInBounds_toArray, List.set_cons_zero, List.set_cons_succ]
  refine rest_take (i := 1) rfl (by kernel_rfl) (by kernel_rfl) (by kernel_rfl) (by rfl) (fun w' hg => by go_simp; try with_reducible rfl) ?_
  try simp only [Act.put, List.setIfInBounds_toArray, List.set_cons_zero, List.set_cons_succ]
  refine rest_take (i := 2) rfl (by kernel_rfl) (by kernel_rfl) (by kernel_rfl) (by rfl) (fun w' hg => by go_simp; try with_reducible rfl) ?_
  try simp only [Act.put, List.setIfInBounds_toArray, List.set_cons_zero, List.set_cons_succ]
  refine rest_take (i := 3) rfl (by kernel_rfl) (by kernel_rfl) (by kernel_rfl) (by rfl) (fun w' hg => by go_simp; try with_reducible rfl) ?_
  try simp only [Act.put, List.setIfInBounds_toArray, List.set_cons_zero, List.set_cons_succ]
  refine rest_take (i := 4) rfl (by kernel_rfl) (by kernel_rfl) (by kernel_rfl) (by rfl) (fun w' hg => by go_simp; try with_reducible rfl) ?_
  try simp only [Act.put, List.setIfInBounds_toArray, List.set_cons_zero, List.set_cons_succ]
  refine rest_take (i := 5) rfl (by kernel_rfl) (by kernel_rfl) (by kernel_rfl) (by rfl) (fun w' hg => by go_simp; try with_reducible rfl) ?_
  try simp only [Act.put, List.setIfInBounds_toArray, List.set_cons_zero, List.set_cons_succ]
  refine rest_take (i := 6) rfl (by kernel_rfl) (by kernel_rfl) (by kernel_rfl) (by rfl) (fun w' hg => by go_simp; try with_reducible rfl) ?_
  try simp only [Act.put, List.setIfInBounds_toArray, List.set_cons_zero, List.set_cons_succ]
  refine rest_take (i := 7) rfl (by kernel_rfl) (by kernel_rfl) (by kernel_rfl) (by rfl) (fun w' hg => by go_simp; try with_reducible rfl) ?_
  try simp only [Act.put, List.setIfInBounds_toArray, List.set_cons_zero, List.set_cons_succ]
  refine rest_take (i := 8) rfl (by kernel_rfl) (by kernel_rfl) (by kernel_rfl) (by rfl) (fun w' hg => by go_simp; try with_reducible rfl) ?_
  try simp only [Act.put, List.setIfInBounds_toArray, List.set_cons_zero, List.set_cons_succ]
  refine rest_take (i := 9) rfl (by kernel_rfl) (by kernel_rfl) (by kernel_rfl) (by rfl) (fun w' hg => by go_simp; try with_reducible rfl) ?_
  try simp only [Act.put, List.setIfInBounds_toArray, List.set_cons_zero, List.set_cons_succ]
  refine rest_take (i := 10) rfl (by kernel_rfl) (by kernel_rfl) (by kernel_rfl) (by rfl) (fun w' hg => by go_simp; try with_reducible rfl) ?_
  try simp only [Act.put, List.setIfInBounds_toArray, List.set_cons_zero, List.set_cons_succ]
  refine rest_take (i := 11) rfl (by kernel_rfl) (by kernel_rfl) (by kernel_rfl) (by rfl) (fun w' hg => by go_simp; try with_reducible rfl) ?_
  try simp only [Act.put, List.setIfInBounds_toArray, List.set_cons_zero, List.set_cons_succ]
  refine rest_take (i := 12) rfl (by kernel_rfl) (by kernel_rfl) (by kernel_rfl) (by rfl) (fun w' hg => by go_simp; try with_reducible rfl) ?_
  try simp only [Act.put, List.setIfInBounds_toArray, List.set_cons_zero, List.set_cons_succ]
  refine rest_take (i := 13) rfl (by kernel_rfl) (by kernel_rfl) (by kernel_rfl) (by rfl) (fun w' hg => by go_simp; try with_reducible rfl) ?_
  try simp only [Act.put, List.setIfInBounds_toArray, List.set_cons_zero, List.set_cons_succ]
  refine rest_take (i := 14) rfl (by kernel_rfl) (by kernel_rfl) (by kernel_rfl) (by rfl) (fun w' hg => by go_simp; try with_reducible rfl) ?_
  try simp only [Act.put, List.setIfInBounds_toArray, List.set_cons_zero, List.set_cons_succ]
  refine rest_take (i := 15) rfl (by kernel_rfl) (by kernel_rfl) (by kernel_rfl) (by rfl) (fun w' hg => by go_simp; try with_reducible rfl) ?_
  try simp only [Act.put, List.setIfInBounds_toArray, List.set_cons_zero, List.set_cons_succ]
  refine rest_take (i := 16) rfl (by kernel_rfl) (by kernel_rfl) (by kernel_rfl) (by rfl) (fun w' hg => by go_simp; try with_reducible rfl) ?_
  try simp only [Act.put, List.setIfInBounds_toArray, List.set_cons_zero, List.set_cons_succ]
  refine rest_take (i := 17) rfl (by kernel_rfl) (by kernel_rfl) (by kernel_rfl) (by rfl) (fun w' hg => by go_simp; try with_reducible rfl) ?_
  try simp only [Act.put, List.setIfInBounds_toArray, List.set_cons_zero, List.set_cons_succ]
  refine rest_take (i := 18) rfl (by kernel_rfl) (by kernel_rfl) (by kernel_rfl) (by rfl) (fun w' hg => by go_simp; try with_reducible rfl) ?_
  try simp only [Act.put, List.setIfInBounds_toArray, List.set_cons_zero, List.set_cons_succ]
  refine rest_take (i := 19) rfl (by kernel_rfl) (by kernel_rfl) (by kernel_rfl) (by rfl) (fun w' hg => by have hcv := conv_at RX.out L5.out c3 w' hg; rw [← HSY.out] at hcv; go_simp; try with_reducible rfl) ?_
  try simp only [Act.put, List.setIfInBounds_toArray, List.set_cons_zero, List.set_cons_succ]
  refine rest_take (i := 20) rfl (by kernel_rfl) (by kernel_rfl) (by kernel_rfl) (by rfl) (fun w' hg => by go_simp; try with_reducible rfl) ?_
  try simp only [Act.put, List.setIfInBounds_toArray, List.set_cons_zero, List.set_cons_succ]
  refine rest_take (i := 21) rfl (by kernel_rfl) (by kernel_rfl) (by kernel_rfl) (by rfl) (fun w' hg => by have hcv := conv_at R5.out L5.out c5 w' hg; rw [← HSY.out] at hcv; go_simp; try with_reducible rfl) ?_
  try simp only [Act.put, List.setIfInBounds_toArray, List.set_cons_zero, List.set_cons_succ]
  refine rest_take (i := 22) rfl (by kernel_rfl) (by kernel_rfl) (by kernel_rfl) (by rfl) (fun w' hg => by go_simp; try with_reducible rfl) ?_
  try simp only [Act.put, List.setIfInBounds_toArray, List.set_cons_zero, List.set_cons_succ]
  refine rest_take (i := 23) rfl (by kernel_rfl) (by kernel_rfl) (by kernel_rfl) (by rfl) (fun w' hg => by go_simp; try with_reducible rfl) ?_
  try simp only [Act.put, List.setIfInBounds_toArray, List.set_cons_zero, List.set_cons_succ]
  refine rest_take (i := 24) rfl (by kernel_rfl) (by kernel_rfl) (by kernel_rfl) (by rfl) (fun w' hg => by go_simp; try with_reducible rfl) ?_
  try simp only [Act.put, List.setIfInBounds_toArray, List.set_cons_zero, List.set_cons_succ]
  refine rest_take (i := 25) rfl (by kernel_rfl) (by kernel_rfl) (by kernel_rfl) (by rfl) (fun w' hg => by go_simp; try with_reducible rfl) ?_
  try simp only [Act.put, List.setIfInBounds_toArray, List.set_cons_zero, List.set_cons_succ]
  refine rest_take (i := 26) rfl (by kernel_rfl) (by kernel_rfl) (by kernel_rfl) (by rfl) (fun w' hg => by have hcv := conv_at R7.out HPl.out c7 w' hg; rw [← HSP.out] at hcv; go_simp; try with_reducible rfl) ?_
  try simp only [Act.put, List.setIfInBounds_toArray, List.set_cons_zero, List.set_cons_succ]
  refine rest_take (i := 27) rfl (by kernel_rfl) (by kernel_rfl) (by kernel_rfl) (by rfl) (fun w' hg => by go_simp; try with_reducible rfl) ?_
  try simp only [Act.put, List.setIfInBounds_toArray, List.set_cons_zero, List.set_cons_succ]
  refine rest_take (i := 28) rfl (by kernel_rfl) (by kernel_rfl) (by kernel_rfl) (by rfl) (fun w' hg => by go_simp; try with_reducible rfl) ?_
  try simp only [Act.put, List.setIfInBounds_toArray, List.set_cons_zero, List.set_cons_succ]
  refine rest_take (i := 29) rfl (by kernel_rfl) (by kernel_rfl) (by kernel_rfl) (by rfl) (fun w' hg => by have hcv := conv_at RB.out HPl.out 64 w' hg; rw [← HSP.out] at hcv; go_simp; try with_reducible rfl) ?_
  try simp only [Act.put, List.setIfInBounds_toArray, List.set_cons_zero, List.set_cons_succ]
  refine rest_take (i := 30) rfl (by kernel_rfl) (by kernel_rfl) (by kernel_rfl) (by rfl) (fun w' hg => by go_simp; try with_reducible rfl) ?_
  try simp only [Act.put, List.setIfInBounds_toArray, List.set_cons_zero, List.set_cons_succ]
  refine rest_take (i := 31) rfl (by kernel_rfl) (by kernel_rfl) (by kernel_rfl) (by rfl) (fun w' hg => by go_simp; try with_reducible rfl) ?_
  try simp only [Act.put, List.setIfInBounds_toArray, List.set_cons_zero, List.set_cons_succ]
  refine rest_take (i := 32) rfl (by kernel_rfl) (by kernel_rfl) (by kernel_rfl) (by rfl) (fun w' hg => by go_simp; try with_reducible rfl) ?_
  try simp only [Act.put, List.setIfInBounds_toArray, List.set_cons_zero, List.set_cons_succ]
  refine rest_done (by kernel_rfl) ?_
  go_wp2
  go_ret
  exact ⟨rfl, H8.out.1⟩
theorem places_walk (HNE : EncNo) (HE : EncOk) (HD : DecOk) (k b : List UInt8) (x y : Int) (hk : k.length = 64) (hb : b.length = 64) (hn : x < 9223372036854775808) (w : World) :
    Calls Try.prog 5 #[.agg (bvs k).toArray, .agg #[.int .i64 x, .int .i64 y], .agg (bvs b).toArray] w (Says w true) := by
  by_cases h : x < 0
  · exact places_neg HNE HE k b x y h w
  · obtain ⟨m, rfl⟩ : ∃ m : Nat, x = (m : Int) := ⟨x.toNat, by omega⟩
    exact places_pos HNE HE HD k b m y hk hb (by omega) w
end Go.Proofs.Ytbgbfofghhiolaa.S8
