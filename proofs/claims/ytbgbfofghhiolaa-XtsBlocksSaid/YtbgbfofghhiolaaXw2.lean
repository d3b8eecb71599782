/-
  XtsBlocks: the walk, out of the program's contracts.
-/
import Derived.Test.YtbgbfofghhiolaaXwA
import Derived.Test.YtbgbfofghhiolaaPdB
namespace Go.Proofs.Ytbgbfofghhiolaa.S8
open Go.RowKit
open Go.Proofs.Ytbgbfofghhiolaa.S7 hiding intOf
set_option linter.unusedVariables false
set_option linter.unusedSimpArgs false

theorem two48 (w : World) (k bb : List UInt8) (t1 t2 : TypeId) : Grown w ((w.alloc (.cells (bvs k).toArray t1)).alloc (.cells (bvs bb).toArray t2)) ∧ Bk ((w.alloc (.cells (bvs k).toArray t1)).alloc (.cells (bvs bb).toArray t2)) w.heap.size t1 k ∧ Bk ((w.alloc (.cells (bvs k).toArray t1)).alloc (.cells (bvs bb).toArray t2)) (w.heap.size + 1) t2 bb := ⟨two_grown w _ _, first_new w _ _, two_new w _ _⟩
theorem bk_part {w : World} {g : Nat} {t : TypeId} {l : List UInt8} (h : Bk w g t l) {B : Nat} (hB : g < B) (o n : Nat) (hn : o + n ≤ l.length) : Rd w B (some ⟨g, o, none⟩) ((l.drop o).take n) :=
  .inr ⟨g, o, rfl, hB, fun j hj => by
    have hj2 : j < n := by simp at hj; omega
    rw [h.cell (o + j) (by omega)]
    simp [bv, gt, show o + j < l.length by omega]⟩
theorem bk_whole {w : World} {g : Nat} {t : TypeId} {l : List UInt8} (h : Bk w g t l) {B : Nat} (hB : g < B) : Rd w B (some ⟨g, 0, none⟩) l := by
  have := bk_part h hB 0 l.length (by omega)
  simpa using this
theorem cut_two (W : World) (A : Option Addr) (m c d e : Nat) (h : d ≤ e) (h2 : e ≤ c) : (Instr.slice 22 (.slice A m c) (some (.int .i64 (d : Int))) (some (.int .i64 (e : Int))) none).run Try.prog W = .ok (.slice (if c = d then A else A.map (·.add d)) (e - d) (c - d)) W := by
  obtain ⟨i0, hi, hz0, hz1, hz2⟩ := info_parts info5
  have he : Try.prog.elem 22 = 5 := by kernel_rfl
  rw [run_slice_lh W 22 A m c (by rw [he]; exact Try.underlying22) .i64 .i64 (d : Int) (e : Int) (by omega) (by omega) (by omega), he]
  simp [sizeOf, typeInfo, hi, hz1, sliced, Result.andThen]
theorem u48 : Try.prog.underlying 30 = some (.array 48 5) := by kernel_rfl
theorem cut_48 (W : World) (g o i e r : Nat) (hi : e = i + 16) (he : e ≤ 48) (hr : r = 48 - i) (q : Nat) (hq : q = o + i) : (Instr.sliceAt 30 (.pointer (some ⟨g, o, none⟩)) (some (.int .i64 (i : Int))) (some (.int .i64 (e : Int))) none).run Try.prog W = .ok (.slice (some ⟨g, q, none⟩) 16 r) W := by
  obtain ⟨i0, hi0, hz0, hz1, hz2⟩ := info_parts info5
  have hel : Try.prog.elem 30 = 5 := by kernel_rfl
  have hl : Try.prog.arrayLen 30 = 48 := by kernel_rfl
  have h1 : ¬ 48 = i := by omega
  have h2 : e - i = 16 := by omega
  rw [run_sliceAt_array_lh (P := Try.prog) W 30 ⟨g, o, none⟩ (by rw [hel, hl]; exact u48) .i64 .i64 (i : Int) (e : Int) (by omega) (by omega) (by rw [hl]; omega), hel, hl]
  simp [sizeOf, typeInfo, hi0, hz1, slicedAt, Result.andThen, Addr.add_mid, h1, h2, ← hr, ← hq]
theorem str_iff (p q : List UInt8) : (ByteArray.mk p.toArray = ByteArray.mk q.toArray) ↔ p = q := by
  constructor
  · intro h
    have := congrArg (fun s => s.data.toList) h
    simpa using this
  · rintro rfl; rfl
theorem str_dec (p q : List UInt8) : decide (ByteArray.mk p.toArray = ByteArray.mk q.toArray) = decide (p = q) := decide_eq_decide.2 (str_iff p q)
theorem str_list (p : List UInt8) : (ByteArray.mk p.toArray).toList = p := by simp
theorem str_lbeq (p q : List UInt8) : ((ByteArray.mk p.toArray).toList == (ByteArray.mk q.toArray).toList) = decide (p = q) := by
  rw [str_list, str_list, Bool.eq_iff_iff]
  simp
theorem str_beq (p q : List UInt8) : (ByteArray.mk p.toArray == ByteArray.mk q.toArray) = decide (p = q) := by
  rw [show (ByteArray.mk p.toArray == ByteArray.mk q.toArray) = (p.toArray == q.toArray) from rfl, Bool.eq_iff_iff]
  simp
def InB (w v : World) (k bb : List UInt8) : Prop := Grown w v ∧ Bk v w.heap.size 29 k ∧ Bk v (w.heap.size + 1) 31 bb
theorem InB.grow {w v v' : World} {k bb : List UInt8} (h : InB w v k bb) (hg : Grown v v') : InB w v' k bb := ⟨Grown.trans h.1 hg, h.2.1.grow hg, h.2.2.grow hg⟩
theorem InB.key {w v : World} {k bb : List UInt8} (h : InB w v k bb) : Rd v v.heap.size (some ⟨w.heap.size, 0, none⟩) k := bk_whole h.2.1 h.2.1.lt
theorem InB.part {w v : World} {k bb : List UInt8} (h : InB w v k bb) (o n : Nat) (hn : o + n ≤ bb.length) : Rd v v.heap.size (some ⟨w.heap.size + 1, o, none⟩) ((bb.drop o).take n) := bk_part h.2.2 h.2.2.lt o n hn

set_option maxHeartbeats 4000000 in
set_option maxRecDepth 20000 in
theorem blocks_neg (HNE : EncNo) (HE : EncOk) (k bb : List UInt8) (n : Int) (hn : n < 0) (w : World) :
    Calls Try.prog 4 #[.agg (bvs k).toArray, .int .i64 n, .agg (bvs bb).toArray] w (Says w true) := by
  have hne := Lib.hid HNE
  have he := Lib.hid HE
  clear HNE HE
  have H0 := Lib.hid (two48 w k bb 29 31)
  go_enter Try.func4, Try.ntmps4
  go_wp2_with fail
  generalize (w.alloc _).alloc _ = w0 at H0 ⊢
  refine (awakeX hne.out he.out w0).mono ?_
  rintro e w1 ⟨rfl, hg1⟩
  have G1 := Lib.hid (Grown.trans H0.out.1 hg1)
  clear hg1
  go_wp2_with fail
  refine (awakeX_twice hne.out he.out w w1 G1.out).mono ?_
  rintro e w2 ⟨rfl, hg2⟩
  have G2 := Lib.hid hg2
  clear hg2 G1
  go_wp2
  go_ret
  exact ⟨rfl, G2.out⟩

set_option maxHeartbeats 4000000 in
set_option maxRecDepth 20000 in
theorem blocks_pos (HNE : EncNo) (HE : EncOk) (k bb : List UInt8) (n : Nat) (hk : k.length = 64) (hbb : bb.length = 96) (hn : n < 9223372036854775808) (w : World) :
    Calls Try.prog 4 #[.agg (bvs k).toArray, .int .i64 (n : Int), .agg (bvs bb).toArray] w (Says w true) := by
  have hne := Lib.hid HNE
  have he := Lib.hid HE
  have HBl := Lib.hid hbb
  have bn : decide ((n : Int) < 0) = false := by simp
  have H0 := Lib.hid (show InB w _ k bb from two48 w k bb 29 31)
  have CE := Lib.hid (fun (B : Option Addr) (b : List UInt8) v (h1 : Rd v v.heap.size (some ⟨w.heap.size, 0, none⟩) k) (hb : b.length = 48) (h2 : Rd v v.heap.size B b) => HE (some ⟨w.heap.size, 0, none⟩) B 64 48 48 n 3 k b v hk (by omega) (by unfold maxLen; omega) h1 hn hb (by omega) (by omega) (by omega) (by omega) (by unfold maxLen; omega) h2)
  clear HNE HE hk hbb
  obtain ⟨b0, hb0⟩ : ∃ b0, b0 = (bb.drop 0).take 48 := ⟨_, rfl⟩
  obtain ⟨b1, hb1⟩ : ∃ b1, b1 = (bb.drop 48).take 48 := ⟨_, rfl⟩
  have HB0 := Lib.hid hb0
  have HB1 := Lib.hid hb1
  have HB0l := Lib.hid (show b0.length = 48 by rw [hb0]; simp; have := HBl.out; omega)
  have HB1l := Lib.hid (show b1.length = 48 by rw [hb1]; simp; have := HBl.out; omega)
  obtain ⟨X, hX⟩ : ∃ X, X = xtE (wK1 k) (wK2 k) n b0 3 := ⟨_, rfl⟩
  obtain ⟨Y, hY⟩ : ∃ Y, Y = xtE (wK1 k) (wK2 k) n b1 3 := ⟨_, rfl⟩
  have HX := Lib.hid hX
  have HY := Lib.hid hY
  clear hb0 hb1 hX hY
  go_enter Try.func4, Try.ntmps4
  go_wp2_with fail
  generalize (w.alloc _).alloc _ = w0 at H0 ⊢
  refine (awakeX hne.out he.out w0).mono ?_
  rintro e w1 ⟨rfl, hg1⟩
  have H1 := Lib.hid (H0.out.grow hg1)
  clear hg1 H0
  go_wp2
  try simp only [Act.put]
  refine rest_start (by kernel_rfl) fun v hv => ?_
  have H2 := Lib.hid (H1.out.grow hv)
  clear hv H1
  refine rest_take (i := 0) rfl (by kernel_rfl) (by kernel_rfl) (by kernel_rfl) (by rfl) (fun w' hg => by go_simp; try with_reducible rfl) ?_
  try simp only [Act.put, List.setIfInBounds_toArray, List.set_cons_zero, List.set_cons_succ]
  refine rest_take (i := 1) rfl (by kernel_rfl) (by kernel_rfl) (by kernel_rfl) (by rfl) (fun w' hg => by go_simp; try with_reducible rfl) ?_
  try simp only [Act.put, List.setIfInBounds_toArray, List.set_cons_zero, List.set_cons_succ]
  refine rest_take (i := 2) rfl (by kernel_rfl) (by kernel_rfl) (by kernel_rfl) (by rfl) (fun w' hg => by go_simp; try with_reducible rfl) ?_
  try simp only [Act.put, List.setIfInBounds_toArray, List.set_cons_zero, List.set_cons_succ]
  refine rest_take (i := 3) rfl (by kernel_rfl) (by kernel_rfl) (by kernel_rfl) (by rfl) (fun w' hg => by go_simp; try with_reducible rfl) ?_
  try simp only [Act.put, List.setIfInBounds_toArray, List.set_cons_zero, List.set_cons_succ]
  refine rest_lone (i := 4) rfl (by kernel_rfl) (by rfl) (fun K hK => ?_)
  go_simp
  refine (CE.out (some ⟨w.heap.size + 1, 0, none⟩) b0 _ H2.out.key HB0l.out (by rw [HB0.out]; exact H2.out.part 0 48 (by have := HBl.out; omega))).mono ?_
  rintro e w3 ⟨A3, c3, rfl, hl3, hc3, hm3, hr3, hg3⟩
  rw [← HX.out] at hl3 hr3
  have H3 := Lib.hid (H2.out.grow hg3)
  have R3 := Lib.hid hr3
  have L3 := Lib.hid hl3
  refine hK.out _ _ hg3 ?_
  clear hK K hg3 H2 hr3 hl3 hm3
  try simp only [Act.put, List.setIfInBounds_toArray, List.set_cons_zero, List.set_cons_succ]
  refine rest_take (i := 5) rfl (by kernel_rfl) (by kernel_rfl) (by kernel_rfl) (by rfl) (fun w' hg => by go_simp; try with_reducible rfl) ?_
  try simp only [Act.put, List.setIfInBounds_toArray, List.set_cons_zero, List.set_cons_succ]
  refine rest_take (i := 6) rfl (by kernel_rfl) (by kernel_rfl) (by kernel_rfl) (by rfl) (fun w' hg => by go_simp; try with_reducible rfl) ?_
  try simp only [Act.put, List.setIfInBounds_toArray, List.set_cons_zero, List.set_cons_succ]
  refine rest_take (i := 7) rfl (by kernel_rfl) (by kernel_rfl) (by kernel_rfl) (by rfl) (fun w' hg => by go_simp; try with_reducible rfl) ?_
  try simp only [Act.put, List.setIfInBounds_toArray, List.set_cons_zero, List.set_cons_succ]
  refine rest_take (i := 8) rfl (by kernel_rfl) (by kernel_rfl) (by kernel_rfl) (by rfl) (fun w' hg => by go_simp; try with_reducible rfl) ?_
  try simp only [Act.put, List.setIfInBounds_toArray, List.set_cons_zero, List.set_cons_succ]
  refine rest_take (i := 9) rfl (by kernel_rfl) (by kernel_rfl) (by kernel_rfl) (by rfl) (fun w' hg => by go_simp; try with_reducible rfl) ?_
  try simp only [Act.put, List.setIfInBounds_toArray, List.set_cons_zero, List.set_cons_succ]
  refine rest_done (by kernel_rfl) ?_
  go_wp2
  try simp only [Act.put]
  refine rest_start (by kernel_rfl) fun v hv => ?_
  have H4 := Lib.hid (H3.out.grow hv)
  replace R3 := Lib.hid (R3.out.grow hv)
  clear hv H3
  refine rest_take (i := 0) rfl (by kernel_rfl) (by kernel_rfl) (by kernel_rfl) (by rfl) (fun w' hg => by go_simp; try with_reducible rfl) ?_
  try simp only [Act.put, List.setIfInBounds_toArray, List.set_cons_zero, List.set_cons_succ]
  refine rest_take (i := 1) rfl (by kernel_rfl) (by kernel_rfl) (by kernel_rfl) (by rfl) (fun w' hg => by go_simp; try with_reducible rfl) ?_
  try simp only [Act.put, List.setIfInBounds_toArray, List.set_cons_zero, List.set_cons_succ]
  refine rest_take (i := 2) rfl (by kernel_rfl) (by kernel_rfl) (by kernel_rfl) (by rfl) (fun w' hg => by go_simp; try with_reducible rfl) ?_
  try simp only [Act.put, List.setIfInBounds_toArray, List.set_cons_zero, List.set_cons_succ]
  refine rest_take (i := 3) rfl (by kernel_rfl) (by kernel_rfl) (by kernel_rfl) (by rfl) (fun w' hg => by go_simp; try with_reducible rfl) ?_
  try simp only [Act.put, List.setIfInBounds_toArray, List.set_cons_zero, List.set_cons_succ]
  refine rest_lone (i := 4) rfl (by kernel_rfl) (by rfl) (fun K hK => ?_)
  go_simp
  refine (CE.out (some ⟨w.heap.size + 1, 48, none⟩) b1 _ H4.out.key HB1l.out (by rw [HB1.out]; exact H4.out.part 48 48 (by have := HBl.out; omega))).mono ?_
  rintro e w5 ⟨A5, c5, rfl, hl5, hc5, hm5, hr5, hg5⟩
  rw [← HY.out] at hl5 hr5
  have H5 := Lib.hid (H4.out.grow hg5)
  replace R3 := Lib.hid (R3.out.grow hg5)
  have R5 := Lib.hid hr5
  have L5 := Lib.hid hl5
  refine hK.out _ _ hg5 ?_
  clear hK K hg5 H4 hr5 hl5 hm5
  try simp only [Act.put, List.setIfInBounds_toArray, List.set_cons_zero, List.set_cons_succ]
  refine rest_take (i := 5) rfl (by kernel_rfl) (by kernel_rfl) (by kernel_rfl) (by rfl) (fun w' hg => by go_simp; try with_reducible rfl) ?_
  try simp only [Act.put, List.setIfInBounds_toArray, List.set_cons_zero, List.set_cons_succ]
  refine rest_take (i := 6) rfl (by kernel_rfl) (by kernel_rfl) (by kernel_rfl) (by rfl) (fun w' hg => by go_simp; try with_reducible rfl) ?_
  try simp only [Act.put, List.setIfInBounds_toArray, List.set_cons_zero, List.set_cons_succ]
  refine rest_take (i := 7) rfl (by kernel_rfl) (by kernel_rfl) (by kernel_rfl) (by rfl) (fun w' hg => by go_simp; try with_reducible rfl) ?_
  try simp only [Act.put, List.setIfInBounds_toArray, List.set_cons_zero, List.set_cons_succ]
  refine rest_take (i := 8) rfl (by kernel_rfl) (by kernel_rfl) (by kernel_rfl) (by rfl) (fun w' hg => by go_simp; try with_reducible rfl) ?_
  try simp only [Act.put, List.setIfInBounds_toArray, List.set_cons_zero, List.set_cons_succ]
  refine rest_take (i := 9) rfl (by kernel_rfl) (by kernel_rfl) (by kernel_rfl) (by rfl) (fun w' hg => by go_simp; try with_reducible rfl) ?_
  try simp only [Act.put, List.setIfInBounds_toArray, List.set_cons_zero, List.set_cons_succ]
  refine rest_done (by kernel_rfl) ?_
  go_wp2
  go_loopw [11] (fun v11 wr => ∃ s i : Nat, v11 = .int .i64 (i : Int) ∧ i ≤ 48 ∧ Hid (i = 16 * s) ∧ Hid (InB w wr k bb ∧ Rd wr wr.heap.size A3 X ∧ Rd wr wr.heap.size A5 Y)) (fun v11 _ => 48 - (intOf v11).toNat)
  case atStart => exact ⟨0, 0, rfl, by omega, rfl, H5.out, R3.out, R5.out⟩
  case round =>
    clear H5 R3 R5
    obtain ⟨s, i, rfl, hi, Hi, H⟩ := hrel
    by_cases hlt : i < 48
    · obtain ⟨j, hj⟩ : ∃ j, j = i + 16 := ⟨_, rfl⟩
      have hj48 : j ≤ 48 := by have := Hi.out; omega
      have e1 : (i : Int) + 16 = (j : Int) := by omega
      have w1' : IntKind.i64.wrap (j : Int) = (j : Int) := by rw [IntKind.wrap_i64]; omega
      have bi : (i : Int) < 48 := by omega
      obtain ⟨Ax, hAx⟩ : ∃ Ax, Ax = if c3 = i then A3 else A3.map (·.add i) := ⟨_, rfl⟩
      obtain ⟨cx, hcx⟩ : ∃ cx, cx = c3 - i := ⟨_, rfl⟩
      obtain ⟨Ay, hAy⟩ : ∃ Ay, Ay = if c5 = i then A5 else A5.map (·.add i) := ⟨_, rfl⟩
      obtain ⟨cy, hcy⟩ : ∃ cy, cy = c5 - i := ⟨_, rfl⟩
      obtain ⟨q, hq⟩ : ∃ q, q = 48 + i := ⟨_, rfl⟩
      obtain ⟨r, hr⟩ : ∃ r, r = 48 - i := ⟨_, rfl⟩
      obtain ⟨X1, hX1⟩ : ∃ X1, X1 = bk X s := ⟨_, rfl⟩
      obtain ⟨Y1, hY1⟩ : ∃ Y1, Y1 = bk Y s := ⟨_, rfl⟩
      obtain ⟨P1, hP1⟩ : ∃ P1, P1 = bk b0 s := ⟨_, rfl⟩
      obtain ⟨Q1, hQ1⟩ : ∃ Q1, Q1 = bk b1 s := ⟨_, rfl⟩
      have hs1 : ∀ V : World, (Instr.slice 22 (.slice A3 48 c3) (some (.int .i64 (i : Int))) (some (.int .i64 (j : Int))) none).run Try.prog V = .ok (.slice Ax 16 cx) V := fun V => by
        rw [hAx, hcx, cut_two V A3 48 c3 i j (by omega) (by omega), show j - i = 16 by omega]
      have hs2 : ∀ V : World, (Instr.slice 22 (.slice A5 48 c5) (some (.int .i64 (i : Int))) (some (.int .i64 (j : Int))) none).run Try.prog V = .ok (.slice Ay 16 cy) V := fun V => by
        rw [hAy, hcy, cut_two V A5 48 c5 i j (by omega) (by omega), show j - i = 16 by omega]
      have hs3 : ∀ V : World, (Instr.sliceAt 30 (.pointer (some ⟨w.heap.size + 1, 0, none⟩)) (some (.int .i64 (i : Int))) (some (.int .i64 (j : Int))) none).run Try.prog V = .ok (.slice (some ⟨w.heap.size + 1, i, none⟩) 16 r) V := fun V => cut_48 V (w.heap.size + 1) 0 i j r hj hj48 hr i (by omega)
      have hs4 : ∀ V : World, (Instr.sliceAt 30 (.pointer (some ⟨w.heap.size + 1, 48, none⟩)) (some (.int .i64 (i : Int))) (some (.int .i64 (j : Int))) none).run Try.prog V = .ok (.slice (some ⟨w.heap.size + 1, q, none⟩) 16 r) V := fun V => cut_48 V (w.heap.size + 1) 48 i j r hj hj48 hr q hq
      have RX := Lib.hid (show Rd wr wr.heap.size Ax X1 by rw [hAx, hX1]; unfold bk; rw [← Hi.out]; exact (Rd.cut H.out.2.1 (by rw [L3.out]; exact hc3)).take 16)
      have RY := Lib.hid (show Rd wr wr.heap.size Ay Y1 by rw [hAy, hY1]; unfold bk; rw [← Hi.out]; exact (Rd.cut H.out.2.2 (by rw [L5.out]; exact hc5)).take 16)
      have RP := Lib.hid (show Rd wr wr.heap.size (some ⟨w.heap.size + 1, i, none⟩) P1 by
        have := H.out.1.part i 16 (by have := HBl.out; omega)
        rw [hP1, HB0.out]
        unfold bk
        rw [← Hi.out, List.drop_take, List.take_take, List.drop_drop, show min 16 (48 - i) = 16 by omega, Nat.zero_add]
        exact this)
      have RQ := Lib.hid (show Rd wr wr.heap.size (some ⟨w.heap.size + 1, q, none⟩) Q1 by
        have := H.out.1.part q 16 (by have := HBl.out; omega)
        rw [hQ1, HB1.out]
        unfold bk
        rw [← Hi.out, List.drop_take, List.take_take, List.drop_drop, show min 16 (48 - i) = 16 by omega, ← hq]
        exact this)
      have LX := Lib.hid (show X1.length = 16 by rw [hX1]; exact bk_len X s (by rw [L3.out]; have := Hi.out; omega))
      have LY := Lib.hid (show Y1.length = 16 by rw [hY1]; exact bk_len Y s (by rw [L5.out]; have := Hi.out; omega))
      have LP := Lib.hid (show P1.length = 16 by rw [hP1]; exact bk_len b0 s (by rw [HB0l.out]; have := Hi.out; omega))
      have LQ := Lib.hid (show Q1.length = 16 by rw [hQ1]; exact bk_len b1 s (by rw [HB1l.out]; have := Hi.out; omega))
      have HEQ := Lib.hid (show (X1 = Y1) ↔ (P1 = Q1) by
        rw [hX1, hY1, HX.out, HY.out, xtE_block _ _ _ _ 3 s (by have := Hi.out; omega), xtE_block _ _ _ _ 3 s (by have := Hi.out; omega), ← hP1, ← hQ1]
        exact fE_apart _ _ _ _ _ _ LP.out LQ.out)
      have HJ := Lib.hid hj
      clear hj hAx hcx hAy hcy hq hr hX1 hY1 hP1 hQ1
      obtain ⟨S1, hS1⟩ : ∃ S : ByteArray, S = ⟨X1.toArray⟩ := ⟨_, rfl⟩
      obtain ⟨S2, hS2⟩ : ∃ S : ByteArray, S = ⟨Y1.toArray⟩ := ⟨_, rfl⟩
      obtain ⟨S3, hS3⟩ : ∃ S : ByteArray, S = ⟨P1.toArray⟩ := ⟨_, rfl⟩
      obtain ⟨S4, hS4⟩ : ∃ S : ByteArray, S = ⟨Q1.toArray⟩ := ⟨_, rfl⟩
      have HS1 := Lib.hid hS1
      have HS2 := Lib.hid hS2
      have HS3 := Lib.hid hS3
      have HS4 := Lib.hid hS4
      obtain ⟨q1, hq1⟩ : ∃ q1, q1 = decide (P1 = Q1) := ⟨_, rfl⟩
      have E34 := Lib.hid (show (S3.toList == S4.toList) = q1 by rw [hq1, hS3, hS4]; exact str_lbeq P1 Q1)
      have D34 := Lib.hid (show decide (S3 = S4) = q1 by rw [hq1, hS3, hS4]; exact str_dec P1 Q1)
      have E12 := Lib.hid (show (S1.toList == S2.toList) = q1 by rw [hq1, hS1, hS2, str_lbeq X1 Y1]; exact decide_eq_decide.2 HEQ.out)
      have D12 := Lib.hid (show decide (S1 = S2) = q1 by rw [hq1, hS1, hS2, str_dec X1 Y1]; exact decide_eq_decide.2 HEQ.out)
      clear hS1 hS2 hS3 hS4 hq1
      go_wp2
      try simp only [Act.put]
      refine rest_start (by kernel_rfl) fun v hv => ?_
      have H6 := Lib.hid (show InB w v k bb ∧ Rd v v.heap.size A3 X ∧ Rd v v.heap.size A5 Y from ⟨H.out.1.grow hv, H.out.2.1.grow hv, H.out.2.2.grow hv⟩)
      replace RX := Lib.hid (RX.out.grow hv)
      replace RY := Lib.hid (RY.out.grow hv)
      replace RP := Lib.hid (RP.out.grow hv)
      replace RQ := Lib.hid (RQ.out.grow hv)
      clear hv H
      refine rest_take (i := 0) rfl (by kernel_rfl) (by kernel_rfl) (by kernel_rfl) (by rfl) (fun w' hg => by go_simp; try with_reducible rfl) ?_
      try simp only [Act.put, List.setIfInBounds_toArray, List.set_cons_zero, List.set_cons_succ]
      refine rest_take (i := 1) rfl (by kernel_rfl) (by kernel_rfl) (by kernel_rfl) (by rfl) (fun w' hg => by go_simp; try with_reducible rfl) ?_
      try simp only [Act.put, List.setIfInBounds_toArray, List.set_cons_zero, List.set_cons_succ]
      refine rest_take (i := 2) rfl (by kernel_rfl) (by kernel_rfl) (by kernel_rfl) (by rfl) (fun w' hg => by go_simp; try with_reducible rfl) ?_
      try simp only [Act.put, List.setIfInBounds_toArray, List.set_cons_zero, List.set_cons_succ]
      refine rest_take (i := 3) rfl (by kernel_rfl) (by kernel_rfl) (by kernel_rfl) (by rfl) (fun w' hg => by go_simp; try with_reducible rfl) ?_
      try simp only [Act.put, List.setIfInBounds_toArray, List.set_cons_zero, List.set_cons_succ]
      refine rest_take (i := 4) rfl (by kernel_rfl) (by kernel_rfl) (by kernel_rfl) (by rfl) (fun w' hg => by go_simp; try with_reducible rfl) ?_
      try simp only [Act.put, List.setIfInBounds_toArray, List.set_cons_zero, List.set_cons_succ]
      refine rest_take (i := 5) rfl (by kernel_rfl) (by kernel_rfl) (by kernel_rfl) (by rfl) (fun w' hg => by have hcv := conv_at RX.out LX.out cx w' hg; rw [← HS1.out] at hcv; go_simp; try with_reducible rfl) ?_
      try simp only [Act.put, List.setIfInBounds_toArray, List.set_cons_zero, List.set_cons_succ]
      refine rest_take (i := 6) rfl (by kernel_rfl) (by kernel_rfl) (by kernel_rfl) (by rfl) (fun w' hg => by go_simp; try with_reducible rfl) ?_
      try simp only [Act.put, List.setIfInBounds_toArray, List.set_cons_zero, List.set_cons_succ]
      refine rest_take (i := 7) rfl (by kernel_rfl) (by kernel_rfl) (by kernel_rfl) (by rfl) (fun w' hg => by go_simp; try with_reducible rfl) ?_
      try simp only [Act.put, List.setIfInBounds_toArray, List.set_cons_zero, List.set_cons_succ]
      refine rest_take (i := 8) rfl (by kernel_rfl) (by kernel_rfl) (by kernel_rfl) (by rfl) (fun w' hg => by go_simp; try with_reducible rfl) ?_
      try simp only [Act.put, List.setIfInBounds_toArray, List.set_cons_zero, List.set_cons_succ]
      refine rest_take (i := 9) rfl (by kernel_rfl) (by kernel_rfl) (by kernel_rfl) (by rfl) (fun w' hg => by go_simp; try with_reducible rfl) ?_
      try simp only [Act.put, List.setIfInBounds_toArray, List.set_cons_zero, List.set_cons_succ]
      refine rest_take (i := 10) rfl (by kernel_rfl) (by kernel_rfl) (by kernel_rfl) (by rfl) (fun w' hg => by go_simp; try with_reducible rfl) ?_
      try simp only [Act.put, List.setIfInBounds_toArray, List.set_cons_zero, List.set_cons_succ]
      refine rest_take (i := 11) rfl (by kernel_rfl) (by kernel_rfl) (by kernel_rfl) (by rfl) (fun w' hg => by have hcv := conv_at RY.out LY.out cy w' hg; rw [← HS2.out] at hcv; go_simp; try with_reducible rfl) ?_
      try simp only [Act.put, List.setIfInBounds_toArray, List.set_cons_zero, List.set_cons_succ]
      refine rest_take (i := 12) rfl (by kernel_rfl) (by kernel_rfl) (by kernel_rfl) (by rfl) (fun w' hg => by have hx1 := E12.out; have hx2 := D12.out; go_simp; try with_reducible rfl) ?_
      try simp only [Act.put, List.setIfInBounds_toArray, List.set_cons_zero, List.set_cons_succ]
      refine rest_take (i := 13) rfl (by kernel_rfl) (by kernel_rfl) (by kernel_rfl) (by rfl) (fun w' hg => by go_simp; try with_reducible rfl) ?_
      try simp only [Act.put, List.setIfInBounds_toArray, List.set_cons_zero, List.set_cons_succ]
      refine rest_take (i := 14) rfl (by kernel_rfl) (by kernel_rfl) (by kernel_rfl) (by rfl) (fun w' hg => by go_simp; try with_reducible rfl) ?_
      try simp only [Act.put, List.setIfInBounds_toArray, List.set_cons_zero, List.set_cons_succ]
      refine rest_take (i := 15) rfl (by kernel_rfl) (by kernel_rfl) (by kernel_rfl) (by rfl) (fun w' hg => by go_simp; try with_reducible rfl) ?_
      try simp only [Act.put, List.setIfInBounds_toArray, List.set_cons_zero, List.set_cons_succ]
      refine rest_take (i := 16) rfl (by kernel_rfl) (by kernel_rfl) (by kernel_rfl) (by rfl) (fun w' hg => by go_simp; try with_reducible rfl) ?_
      try simp only [Act.put, List.setIfInBounds_toArray, List.set_cons_zero, List.set_cons_succ]
      refine rest_take (i := 17) rfl (by kernel_rfl) (by kernel_rfl) (by kernel_rfl) (by rfl) (fun w' hg => by go_simp; try with_reducible rfl) ?_
      try simp only [Act.put, List.setIfInBounds_toArray, List.set_cons_zero, List.set_cons_succ]
      refine rest_take (i := 18) rfl (by kernel_rfl) (by kernel_rfl) (by kernel_rfl) (by rfl) (fun w' hg => by have hcv := conv_at RP.out LP.out r w' hg; rw [← HS3.out] at hcv; go_simp; try with_reducible rfl) ?_
      try simp only [Act.put, List.setIfInBounds_toArray, List.set_cons_zero, List.set_cons_succ]
      refine rest_take (i := 19) rfl (by kernel_rfl) (by kernel_rfl) (by kernel_rfl) (by rfl) (fun w' hg => by go_simp; try with_reducible rfl) ?_
      try simp only [Act.put, List.setIfInBounds_toArray, List.set_cons_zero, List.set_cons_succ]
      refine rest_take (i := 20) rfl (by kernel_rfl) (by kernel_rfl) (by kernel_rfl) (by rfl) (fun w' hg => by go_simp; try with_reducible rfl) ?_
      try simp only [Act.put, List.setIfInBounds_toArray, List.set_cons_zero, List.set_cons_succ]
      refine rest_take (i := 21) rfl (by kernel_rfl) (by kernel_rfl) (by kernel_rfl) (by rfl) (fun w' hg => by go_simp; try with_reducible rfl) ?_
      try simp only [Act.put, List.setIfInBounds_toArray, List.set_cons_zero, List.set_cons_succ]
      refine rest_take (i := 22) rfl (by kernel_rfl) (by kernel_rfl) (by kernel_rfl) (by rfl) (fun w' hg => by go_simp; try with_reducible rfl) ?_
      try simp only [Act.put, List.setIfInBounds_toArray, List.set_cons_zero, List.set_cons_succ]
      refine rest_take (i := 23) rfl (by kernel_rfl) (by kernel_rfl) (by kernel_rfl) (by rfl) (fun w' hg => by go_simp; try with_reducible rfl) ?_
      try simp only [Act.put, List.setIfInBounds_toArray, List.set_cons_zero, List.set_cons_succ]
      refine rest_take (i := 24) rfl (by kernel_rfl) (by kernel_rfl) (by kernel_rfl) (by rfl) (fun w' hg => by have hcv := conv_at RQ.out LQ.out r w' hg; rw [← HS4.out] at hcv; go_simp; try with_reducible rfl) ?_
      try simp only [Act.put, List.setIfInBounds_toArray, List.set_cons_zero, List.set_cons_succ]
      refine rest_take (i := 25) rfl (by kernel_rfl) (by kernel_rfl) (by kernel_rfl) (by rfl) (fun w' hg => by have hx1 := E34.out; have hx2 := D34.out; go_simp; try with_reducible rfl) ?_
      try simp only [Act.put, List.setIfInBounds_toArray, List.set_cons_zero, List.set_cons_succ]
      refine rest_take (i := 26) rfl (by kernel_rfl) (by kernel_rfl) (by kernel_rfl) (by rfl) (fun w' hg => by go_simp; try with_reducible rfl) ?_
      try simp only [Act.put, List.setIfInBounds_toArray, List.set_cons_zero, List.set_cons_succ]
      refine rest_done (by kernel_rfl) ?_
      go_wp2
      go_roundw
      case rel => exact ⟨s + 1, j, rfl, by omega, (by show j = 16 * (s + 1); have := HJ.out; have := Hi.out; omega), H6.out⟩
      case measure => have := HJ.out; simp [intOf]; omega
    · have bi : ¬ (i : Int) < 48 := by omega
      have G := Lib.hid H.out.1.1
      clear H
      go_wp2
      go_ret
      exact ⟨rfl, G.out⟩
theorem blocks_walk (HNE : EncNo) (HE : EncOk) (k bb : List UInt8) (n : Int) (hk : k.length = 64) (hbb : bb.length = 96) (hn : n < 9223372036854775808) (w : World) :
    Calls Try.prog 4 #[.agg (bvs k).toArray, .int .i64 n, .agg (bvs bb).toArray] w (Says w true) := by
  by_cases h : n < 0
  · exact blocks_neg HNE HE k bb n h w
  · obtain ⟨m, rfl⟩ : ∃ m : Nat, n = (m : Int) := ⟨n.toNat, by omega⟩
    exact blocks_pos HNE HE k bb m hk hbb (by omega) w
end Go.Proofs.Ytbgbfofghhiolaa.S8
