/-
  Contract of the program's addKey.
-/
import Derived.Test.YtgfmdjagggnfbaaPdC
namespace Go.Proofs.Ytgfmdjagggnfbaa.S7
open Go.RowKit
set_option linter.unusedVariables false
set_option linter.unusedSimpArgs false

/-- The words of a key lie at the head of block G. -/
def Cw (w : World) (G : Nat) (W : List UInt8) : Prop := G < w.heap.size ∧ ∀ j, j < 240 → w.cell? ⟨G, j, none⟩ = some (.int .u8 ((gt W j).toNat : Int))
theorem Cw.grow {w w' : World} {G : Nat} {W : List UInt8} (h : Cw w G W) (hg : Grown w w') : Cw w' G W := ⟨Nat.lt_of_lt_of_le h.1 hg.size, fun j hj => (hg.cell (p := ⟨G, j, none⟩) h.1).trans (h.2 j hj)⟩
theorem Cw.in_ {w wr : World} {G : Nat} {W L : List UInt8} (h : Cw w G W) (hf : Fr w wr L) (j : Nat) (hj : j < 240) : wr.cell? ⟨G, j, none⟩ = some (.int .u8 ((gt W j).toNat : Int)) := (hf.1.cell (p := ⟨G, j, none⟩) h.1).trans (h.2 j hj)
theorem info4 : (Try.prog.info? 41).map (fun i => (i.zero, i.size, i.bytes)) = some (some (.agg #[.int .u8 0, .int .u8 0, .int .u8 0, .int .u8 0]), 4, 4) := by kernel_rfl
theorem i4B : (Try.prog.info? 41).map (·.size) = some 4 := by kernel_rfl
theorem u4B : Try.prog.underlying 41 = some (.array 4 5) := by kernel_rfl
theorem u60 : Try.prog.underlying 42 = some (.array 60 41) := by kernel_rfl
theorem cut_words (W : World) (G r a b : Nat) (ha : a = 4 * r) (hb : b = 4 * (r + 1)) (h : b ≤ 60) (Q C : Nat) (hQ : Q = 16 * r) (hC : C = 60 - a) :
    (Instr.sliceAt 42 (.pointer (some ⟨G, 0, none⟩)) (some (.int .i64 (a : Int))) (some (.int .i64 (b : Int))) none).run Try.prog W = .ok (.slice (some ⟨G, Q, none⟩) 4 C) W := by
  obtain ⟨i0, hi, hz1⟩ : ∃ i0, Try.prog.info? 41 = some i0 ∧ i0.size = 4 := by
    have := i4B
    cases hq : Try.prog.info? 41 with
    | none => simp [hq] at this
    | some i0 => exact ⟨i0, rfl, by simpa [hq] using this⟩
  have he : Try.prog.elem 42 = 41 := by kernel_rfl
  have hl : Try.prog.arrayLen 42 = 60 := by kernel_rfl
  rw [run_sliceAt_array_lh (P := Try.prog) W 42 ⟨G, 0, none⟩ (by rw [he, hl]; exact u60) .i64 .i64 (a : Int) (b : Int) (by omega) (by omega) (by rw [hl]; omega), he, hl]
  have h1 : ¬ 60 = a := by omega
  have h2 : a * 4 = Q := by omega
  have h3 : b - a = 4 := by omega
  simp [sizeOf, typeInfo, hi, hz1, slicedAt, Result.andThen, Addr.add_mid, h1, h2, h3, ← hC]
theorem wrap_i64' (n : Nat) (h : n < 100000) : IntKind.i64.wrap (n : Int) = (n : Int) := by rw [IntKind.wrap_i64]; omega
def addF (W : List UInt8) (r : Nat) (b : List UInt8) (i : Nat) : UInt8 := gt b i ^^^ gt W (16 * r + i)

set_option maxHeartbeats 4000000 in
set_option maxRecDepth 20000 in
theorem addKey_any (G : Nat) (W b : List UInt8) (hb : b.length = 16) (r : Nat) (hr : r ≤ 14) (w : World) (hW : Cw w G W) :
    Calls Try.prog 19 #[.pointer (some ⟨G, 0, none⟩), .agg (bvs b).toArray, .int .i64 (r : Int)] w fun e w' => e = .returned (.agg (bvs (addK W r b)).toArray) ∧ Grown w w' := by
  have Hb := Lib.hid hb
  have HW := Lib.hid hW
  have H0 := Lib.hid (Fr.start w b rfl (Z := (bvs zs16).toArray) rfl)
  rw [show (bvs zs16).toArray = #[Value.int .u8 0, Value.int .u8 0, Value.int .u8 0, Value.int .u8 0, Value.int .u8 0, Value.int .u8 0, Value.int .u8 0, Value.int .u8 0, Value.int .u8 0, Value.int .u8 0, Value.int .u8 0, Value.int .u8 0, Value.int .u8 0, Value.int .u8 0, Value.int .u8 0, Value.int .u8 0] from rfl] at H0
  obtain ⟨r0, hr0⟩ : ∃ x, x = 4 * r := ⟨_, rfl⟩
  obtain ⟨ra, hra⟩ : ∃ x, x = r + 1 := ⟨_, rfl⟩
  obtain ⟨r1, hr1⟩ : ∃ x, x = 4 * ra := ⟨_, rfl⟩
  obtain ⟨Q, hQ⟩ : ∃ x, x = 16 * r := ⟨_, rfl⟩
  obtain ⟨C, hC⟩ : ∃ x, x = 60 - r0 := ⟨_, rfl⟩
  have hsl : ∀ V : World, (Instr.sliceAt 42 (.pointer (some ⟨G, 0, none⟩)) (some (.int .i64 (r0 : Int))) (some (.int .i64 (r1 : Int))) none).run Try.prog V = .ok (.slice (some ⟨G, Q, none⟩) 4 C) V := fun V => cut_words V G r r0 r1 hr0 (by rw [hr1, hra]) (by omega) Q C hQ hC
  have e0 : IntKind.i64.wrap (4 * (r : Int)) = (r0 : Int) := by rw [IntKind.wrap_i64]; omega
  have e1 : IntKind.i64.wrap ((r : Int) + 1) = (ra : Int) := by rw [IntKind.wrap_i64]; omega
  have e2 : IntKind.i64.wrap (4 * (ra : Int)) = (r1 : Int) := by rw [IntKind.wrap_i64]; omega
  have HQ := Lib.hid hQ
  have HQ2 := Lib.hid (show Q ≤ 224 by omega)
  clear hb hr0 hra hr1 hQ hC
  go_enter Try.func19, Try.ntmps19
  go_wp2
  generalize (w.alloc _).alloc _ = w3 at H0 ⊢
  have H1 := Lib.hid (show Fr w w3 (pt (addF W r b) b (4 * 0)) by rw [Nat.mul_zero, pt_zero _ _ Hb.out]; exact H0.out)
  clear H0 e0 e1 e2 hsl
  go_loopw [19] (fun v19 wr => ∃ t : Nat, v19 = .int .i64 (t : Int) ∧ t ≤ 4 ∧ Hid (Fr w wr (pt (addF W r b) b (4 * t)))) (fun v19 _ => 4 - (intOf v19).toNat)
  case atStart => exact ⟨0, rfl, by omega, H1.out⟩
  case round =>
    clear H1
    obtain ⟨t, rfl, ht, H⟩ := hrel
    by_cases hlt : t < 4
    · obtain ⟨m, hm⟩ : ∃ x, x = 4 * t := ⟨_, rfl⟩
      obtain ⟨m1, hm1⟩ : ∃ x, x = m + 1 := ⟨_, rfl⟩
      obtain ⟨m2, hm2⟩ : ∃ x, x = m + 2 := ⟨_, rfl⟩
      obtain ⟨m3, hm3⟩ : ∃ x, x = m + 3 := ⟨_, rfl⟩
      have h13 : m3 < 16 := by omega
      have e0 : 4 * (t : Int) = (m : Int) := by omega
      have e1 : (m : Int) + 1 = (m1 : Int) := by omega
      have e2 : (m : Int) + 2 = (m2 : Int) := by omega
      have e3 : (m : Int) + 3 = (m3 : Int) := by omega
      have f0 := wrap_i64' m (by omega)
      have f1 := wrap_i64' m1 (by omega)
      have f2 := wrap_i64' m2 (by omega)
      have f3 := wrap_i64' m3 (by omega)
      have l0 : (m : Int) < 16 := by omega
      have l1 : (m1 : Int) < 16 := by omega
      have l2 : (m2 : Int) < 16 := by omega
      have l3 : (m3 : Int) < 16 := by omega
      obtain ⟨c0, hc0⟩ : ∃ x, x = gt W (Q + t * 4) := ⟨_, rfl⟩
      obtain ⟨p0, hp0⟩ : ∃ x, x = gt b m := ⟨_, rfl⟩
      obtain ⟨z0, hz0⟩ : ∃ x, x = p0 ^^^ c0 := ⟨_, rfl⟩
      have q0 : bits .xor .u8 (p0.toNat : Int) (c0.toNat : Int) = (z0.toNat : Int) := by rw [hz0]; exact xor_u8 _ _
      have k0 := HW.out.in_ H.out (Q + t * 4) (by have := HQ2.out; omega)
      rw [← hc0] at k0
      have HZ0 := Lib.hid (show z0 = addF W r b m by unfold addF; rw [hz0, hp0, hc0, show 16 * r + m = Q + t * 4 by have := HQ.out; omega])
      have HP0 := Lib.hid hp0
      obtain ⟨c1, hc1⟩ : ∃ x, x = gt W (Q + t * 4 + 1) := ⟨_, rfl⟩
      obtain ⟨p1, hp1⟩ : ∃ x, x = gt b m1 := ⟨_, rfl⟩
      obtain ⟨z1, hz1⟩ : ∃ x, x = p1 ^^^ c1 := ⟨_, rfl⟩
      have q1 : bits .xor .u8 (p1.toNat : Int) (c1.toNat : Int) = (z1.toNat : Int) := by rw [hz1]; exact xor_u8 _ _
      have k1 := HW.out.in_ H.out (Q + t * 4 + 1) (by have := HQ2.out; omega)
      rw [← hc1] at k1
      have HZ1 := Lib.hid (show z1 = addF W r b m1 by unfold addF; rw [hz1, hp1, hc1, show 16 * r + m1 = Q + t * 4 + 1 by have := HQ.out; omega])
      have HP1 := Lib.hid hp1
      obtain ⟨c2, hc2⟩ : ∃ x, x = gt W (Q + t * 4 + 2) := ⟨_, rfl⟩
      obtain ⟨p2, hp2⟩ : ∃ x, x = gt b m2 := ⟨_, rfl⟩
      obtain ⟨z2, hz2⟩ : ∃ x, x = p2 ^^^ c2 := ⟨_, rfl⟩
      have q2 : bits .xor .u8 (p2.toNat : Int) (c2.toNat : Int) = (z2.toNat : Int) := by rw [hz2]; exact xor_u8 _ _
      have k2 := HW.out.in_ H.out (Q + t * 4 + 2) (by have := HQ2.out; omega)
      rw [← hc2] at k2
      have HZ2 := Lib.hid (show z2 = addF W r b m2 by unfold addF; rw [hz2, hp2, hc2, show 16 * r + m2 = Q + t * 4 + 2 by have := HQ.out; omega])
      have HP2 := Lib.hid hp2
      obtain ⟨c3, hc3⟩ : ∃ x, x = gt W (Q + t * 4 + 3) := ⟨_, rfl⟩
      obtain ⟨p3, hp3⟩ : ∃ x, x = gt b m3 := ⟨_, rfl⟩
      obtain ⟨z3, hz3⟩ : ∃ x, x = p3 ^^^ c3 := ⟨_, rfl⟩
      have q3 : bits .xor .u8 (p3.toNat : Int) (c3.toNat : Int) = (z3.toNat : Int) := by rw [hz3]; exact xor_u8 _ _
      have k3 := HW.out.in_ H.out (Q + t * 4 + 3) (by have := HQ2.out; omega)
      rw [← hc3] at k3
      have HZ3 := Lib.hid (show z3 = addF W r b m3 by unfold addF; rw [hz3, hp3, hc3, show 16 * r + m3 = Q + t * 4 + 3 by have := HQ.out; omega])
      have HP3 := Lib.hid hp3
      rw [← hm] at H
      have HM := Lib.hid hm
      have HM1 := Lib.hid hm1
      have HM2 := Lib.hid hm2
      have HM3 := Lib.hid hm3
      clear hm hm1 hm2 hm3 hc0 hc1 hc2 hc3 hp0 hp1 hp2 hp3 hz0 hz1 hz2 hz3
      go_wp2
      obtain ⟨g, hg⟩ : ∃ g, g = wr.heap.size := ⟨_, rfl⟩
      have H2 := Lib.hid (H.out.alloc (.cells #[Value.int .u8 c0.toNat, Value.int .u8 c1.toNat, Value.int .u8 c2.toNat, Value.int .u8 c3.toNat] 41))
      have HK := Lib.hid (show Bk (wr.alloc (.cells #[Value.int .u8 c0.toNat, Value.int .u8 c1.toNat, Value.int .u8 c2.toNat, Value.int .u8 c3.toNat] 41)) g 41 [c0, c1, c2, c3] by rw [hg]; exact heap_alloc_new wr _)
      have hgs : w.heap.size ≠ g := by have := H.out.size; omega
      rw [← hg]
      clear H k0 k1 k2 k3 hg
      generalize wr.alloc _ = w4 at H2 HK ⊢
      have a0 := H2.out.cell m (by rw [pt_len]; omega)
      rw [gt_pt _ _ _ _ (by omega), if_neg (by omega), ← HP0.out] at a0
      have b0 : w4.cell? ⟨g, 0, none⟩ = some (.int .u8 (c0.toNat : Int)) := HK.out.cell 0 (by simp)
      go_still_tail 8, (by kernel_rfl)
      change wpList _ _ _ _ _ w4.drew
      clear a0 b0
      have H0' := Lib.hid H2.out.drew
      have HK0' := Lib.hid HK.out.drew
      clear H2 HK
      generalize w4.drew = v0 at H0' HK0' ⊢
      go_wp2_with (first
        | (refine wpList_cell_fr rfl (.tmp 31) (.tmp 30) rfl (z := z0) rfl rfl H0'.out (by rw [pt_len]; omega) ?_))
      have N0 := Lib.hid (show Fr w (v0.setCell ⟨w.heap.size, m, none⟩ (.int .u8 (z0.toNat : Int))) (pt (addF W r b) b m1) by rw [show m1 = m + 1 by have := HM1.out; have := HM2.out; have := HM3.out; omega, ← pt_set, ← HZ0.out]; exact H0'.out.put m z0)
      have M0 := Lib.hid (HK0'.out.far (p := ⟨w.heap.size, m, none⟩) hgs.symm (.int .u8 (z0.toNat : Int)))
      clear H0' HK0'
      generalize v0.setCell _ _ = x0 at N0 M0 ⊢
      have a1 := N0.out.cell m1 (by rw [pt_len]; omega)
      rw [gt_pt _ _ _ _ (by omega), if_neg (by omega), ← HP1.out] at a1
      have b1 : x0.cell? ⟨g, 1, none⟩ = some (.int .u8 (c1.toNat : Int)) := M0.out.cell 1 (by simp)
      go_still_tail 9, (by kernel_rfl)
      change wpList _ _ _ _ _ x0.drew
      clear a1 b1
      have H1' := Lib.hid N0.out.drew
      have HK1' := Lib.hid M0.out.drew
      clear N0 M0
      generalize x0.drew = v1 at H1' HK1' ⊢
      go_wp2_with (first
        | (refine wpList_cell_fr rfl (.tmp 40) (.tmp 39) rfl (z := z1) rfl rfl H1'.out (by rw [pt_len]; omega) ?_))
      have N1 := Lib.hid (show Fr w (v1.setCell ⟨w.heap.size, m1, none⟩ (.int .u8 (z1.toNat : Int))) (pt (addF W r b) b m2) by rw [show m2 = m1 + 1 by have := HM1.out; have := HM2.out; have := HM3.out; omega, ← pt_set, ← HZ1.out]; exact H1'.out.put m1 z1)
      have M1 := Lib.hid (HK1'.out.far (p := ⟨w.heap.size, m1, none⟩) hgs.symm (.int .u8 (z1.toNat : Int)))
      clear H1' HK1'
      generalize v1.setCell _ _ = x1 at N1 M1 ⊢
      have a2 := N1.out.cell m2 (by rw [pt_len]; omega)
      rw [gt_pt _ _ _ _ (by omega), if_neg (by omega), ← HP2.out] at a2
      have b2 : x1.cell? ⟨g, 2, none⟩ = some (.int .u8 (c2.toNat : Int)) := M1.out.cell 2 (by simp)
      go_still_tail 9, (by kernel_rfl)
      change wpList _ _ _ _ _ x1.drew
      clear a2 b2
      have H2' := Lib.hid N1.out.drew
      have HK2' := Lib.hid M1.out.drew
      clear N1 M1
      generalize x1.drew = v2 at H2' HK2' ⊢
      go_wp2_with (first
        | (refine wpList_cell_fr rfl (.tmp 49) (.tmp 48) rfl (z := z2) rfl rfl H2'.out (by rw [pt_len]; omega) ?_))
      have N2 := Lib.hid (show Fr w (v2.setCell ⟨w.heap.size, m2, none⟩ (.int .u8 (z2.toNat : Int))) (pt (addF W r b) b m3) by rw [show m3 = m2 + 1 by have := HM1.out; have := HM2.out; have := HM3.out; omega, ← pt_set, ← HZ2.out]; exact H2'.out.put m2 z2)
      have M2 := Lib.hid (HK2'.out.far (p := ⟨w.heap.size, m2, none⟩) hgs.symm (.int .u8 (z2.toNat : Int)))
      clear H2' HK2'
      generalize v2.setCell _ _ = x2 at N2 M2 ⊢
      have a3 := N2.out.cell m3 (by rw [pt_len]; omega)
      rw [gt_pt _ _ _ _ (by omega), if_neg (by omega), ← HP3.out] at a3
      have b3 : x2.cell? ⟨g, 3, none⟩ = some (.int .u8 (c3.toNat : Int)) := M2.out.cell 3 (by simp)
      go_still_tail 9, (by kernel_rfl)
      change wpList _ _ _ _ _ x2.drew
      clear a3 b3
      have H3' := Lib.hid N2.out.drew
      have HK3' := Lib.hid M2.out.drew
      clear N2 M2
      generalize x2.drew = v3 at H3' HK3' ⊢
      go_wp2_with (first
        | (refine wpList_cell_fr rfl (.tmp 58) (.tmp 57) rfl (z := z3) rfl rfl H3'.out (by rw [pt_len]; omega) ?_))
      have N3 := Lib.hid (show Fr w (v3.setCell ⟨w.heap.size, m3, none⟩ (.int .u8 (z3.toNat : Int))) (pt (addF W r b) b (m3 + 1)) by rw [← pt_set, ← HZ3.out]; exact H3'.out.put m3 z3)
      have M3 := Lib.hid (HK3'.out.far (p := ⟨w.heap.size, m3, none⟩) hgs.symm (.int .u8 (z3.toNat : Int)))
      clear H3' HK3'
      generalize v3.setCell _ _ = x3 at N3 M3 ⊢
      go_wp2
      go_roundw
      case rel => exact ⟨t + 1, by go_num, by omega, (by rw [show 4 * (t + 1) = m3 + 1 by have := HM3.out; have := HM.out; omega]; exact N3.out)⟩
      case measure => simp [intOf]; omega
    · have H2 := Lib.hid (show Fr w wr (addK W r b) by have := H.out; rw [show 4 * t = 16 by omega, pt_all] at this; exact this)
      have bt : ¬ (t : Int) < 4 := by omega
      have HR := Lib.hid (addK_len W r b)
      obtain ⟨R, hR⟩ : ∃ R, R = addK W r b := ⟨_, rfl⟩
      rw [← hR] at H2 HR
      have HE := Lib.hid hR
      clear H hR
      go_wp2_with (first
        | (refine wpList_load_fr rfl (.tmp 4) rfl rfl H2.out HR.out ?_)
        | (refine wpList_store_res rfl (.tmp 6) (.tmp 60) rfl rfl rfl H2.out HR.out ?_
           intro w9 h9
           have H9 := Lib.hid h9
           clear h9))
      exact ret_fr rfl rfl H9.out HR.out ⟨by rw [HE.out], H9.out.1⟩
end Go.Proofs.Ytgfmdjagggnfbaa.S7
