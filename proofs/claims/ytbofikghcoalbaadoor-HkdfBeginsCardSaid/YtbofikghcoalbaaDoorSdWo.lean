/-
  Contract of the program's wordsOf: the words of a block, extended.
-/
import Derived.Test.YtbofikghcoalbaaDoorSdRo
import Derived.Test.YtbofikghcoalbaaDoorSdWa
import Derived.Test.YtbofikghcoalbaaDoorSdKt
import Derived.Deep.MidRow
import Derived.StillTailTactics
namespace Go.Proofs.YtbofikghcoalbaaDoor.S4
open Go.RowKit
set_option linter.unusedVariables false
set_option linter.unusedSimpArgs false

/-- Where wordsOf stands: k words are there. -/
def WoIn (w wr : World) (l : List UInt8) (k : Nat) : Prop :=
  wr.heap[w.heap.size]? = some (.cells (bvs l).toArray 51 (0, 0)) ∧ wr.heap[w.heap.size + 1]? = some (.cells (wvs (List.replicate 80 0)).toArray 69 (0, 0)) ∧
  wr.heap[w.heap.size + 2]? = some (.cells (wvs (wl l k ++ List.replicate (80 - k) 0)).toArray 69 (0, 0)) ∧ Below w.heap.size w wr

theorem WoIn.start (w : World) {l : List UInt8} {C c1 c2 : Array Value} (hC : C = (bvs l).toArray) (h1 : c1 = (wvs (List.replicate 80 0)).toArray) (h2 : c2 = (wvs (List.replicate 80 0)).toArray) :
    WoIn w (((w.alloc (.cells C 51)).alloc (.cells c1 69)).alloc (.cells c2 69)) l 0 := by
  subst hC h1 h2
  refine ⟨?_, ?_, ?_, (((alloc_below w _).alloc (by simp) _).alloc (by simp; omega) _)⟩
  · rw [Below.heap_alloc _ _ _ (by simp; omega), Below.heap_alloc _ _ _ (by simp), heap_alloc_new]
  · rw [Below.heap_alloc _ _ _ (by simp)]
    have := heap_alloc_new (w.alloc (.cells (bvs l).toArray 51)) (.cells (wvs (List.replicate 80 0)).toArray 69)
    rwa [show (w.alloc (.cells (bvs l).toArray 51)).heap.size = w.heap.size + 1 by simp] at this
  · have := heap_alloc_new ((w.alloc (.cells (bvs l).toArray 51)).alloc (.cells (wvs (List.replicate 80 0)).toArray 69)) (.cells (wvs (List.replicate 80 0)).toArray 69)
    rwa [show ((w.alloc (.cells (bvs l).toArray 51)).alloc (.cells (wvs (List.replicate 80 0)).toArray 69)).heap.size = w.heap.size + 2 by simp] at this
theorem WoIn.drew {w wr : World} {l : List UInt8} {k : Nat} (h : WoIn w wr l k) : WoIn w wr.drew l k := ⟨h.1, h.2.1, h.2.2.1, ⟨h.2.2.2.os, h.2.2.2.tape, h.2.2.2.output, h.2.2.2.size, h.2.2.2.block⟩⟩
theorem WoIn.byte {w wr : World} {l : List UInt8} {k : Nat} (h : WoIn w wr l k) (i : Nat) (hi : i < l.length) : wr.cell? ⟨w.heap.size, i, none⟩ = some (.int .u8 ((l.getD i 0).toNat : Int)) := by
  rw [cell_of_row wr _ i _ _ _ h.1]
  simp [bvs, bv, hi]
theorem WoIn.word {w wr : World} {l : List UInt8} {k : Nat} (h : WoIn w wr l k) (i : Nat) (hi : i < k) : wr.cell? ⟨w.heap.size + 1 + 1, i, none⟩ = some (.int .u64 (((wl l k).getD i 0).toNat : Int)) := by
  have hl := wl_len l k
  rw [cell_of_row wr _ i _ _ _ h.2.2.1]
  simp only [List.getElem?_toArray, wvs, List.getElem?_map]
  rw [List.getElem?_append_left (by omega), List.getElem?_eq_getElem (by omega), List.getD_eq_getElem?_getD, List.getElem?_eq_getElem (by omega)]
  rfl
theorem WoIn.next {w wr : World} {l : List UInt8} {k : Nat} (h : WoIn w wr l k) (hk : k < 80) : wr.cell? ⟨w.heap.size + 1 + 1, k, none⟩ = some (.int .u64 0) := by
  have hl := wl_len l k
  rw [cell_of_row wr _ k _ _ _ h.2.2.1]
  simp only [List.getElem?_toArray, wvs, List.getElem?_map]
  rw [List.getElem?_append_right (by omega), hl, Nat.sub_self, List.getElem?_replicate, if_pos (by omega)]
  rfl
theorem WoIn.free {w wr : World} {l : List UInt8} {k : Nat} (h : WoIn w wr l k) (i : Nat) : wr.frozen? ⟨w.heap.size + 1 + 1, i, none⟩ = false := frozen_of_row wr _ i _ _ h.2.2.1
theorem WoIn.put {w wr : World} {l : List UInt8} {k : Nat} (h : WoIn w wr l k) (hk : k < 80) {x : UInt64} (hx : wl l k ++ [x] = wl l (k + 1)) : WoIn w (wr.setCell ⟨w.heap.size + 1 + 1, k, none⟩ (.int .u64 (x.toNat : Int))) l (k + 1) := by
  have hl := wl_len l k
  obtain ⟨h1, h2, h3, h4⟩ := h
  refine ⟨(Below.heap_setCell wr _ _ _ (by show w.heap.size ≠ w.heap.size + 1 + 1; omega)).trans h1, (Below.heap_setCell wr _ _ _ (by show w.heap.size + 1 ≠ w.heap.size + 1 + 1; omega)).trans h2, ?_, h4.setCell (by show w.heap.size ≤ w.heap.size + 1 + 1; omega) _⟩
  have := heap_setCell_same wr (w.heap.size + 1 + 1) k _ _ (.int .u64 (x.toNat : Int)) h3
  rw [this, ← hx]
  congr 2
  simp only [List.setIfInBounds_toArray, wvs]
  congr 1
  rw [show Value.int .u64 (x.toNat : Int) = wv x from rfl, ← List.map_set, List.set_append_right _ _ (by omega), hl, Nat.sub_self, show 80 - k = (80 - (k + 1)) + 1 by omega, List.replicate_succ, List.set_cons_zero]
  simp

theorem zero_80 (W : World) : (zeroValue 69).run Tryd.prog W = .ok (.agg (wvs (List.replicate 80 0)).toArray) W := by kernel_rfl
theorem cut_arr (W : World) (g h : Nat) (hh : h < 128) : (Instr.sliceAt 51 (.pointer (some ⟨g, 0, none⟩)) (some (.int .i64 (h : Int))) none none).run Tryd.prog W = .ok (.slice (some ⟨g, h, none⟩) (128 - h) (128 - h)) W := by
  obtain ⟨i0, hi, hz0, hz1, hz2⟩ := info_parts info5
  have he : Tryd.prog.elem 51 = 5 := by kernel_rfl
  have hl : Tryd.prog.arrayLen 51 = 128 := by kernel_rfl
  rw [run_sliceAt_array_l (P := Tryd.prog) W 51 ⟨g, 0, none⟩ (by rw [he, hl]; exact u128B) .i64 (h : Int) (by omega) (by rw [hl]; omega), he, hl]
  simp [sizeOf, typeInfo, hi, hz1, slicedAt, sliced, Result.andThen, Addr.add_mid]
  omega
theorem pw_num (l : List UInt8) (i : Nat) : ∀ j, 8 * i + j ≤ l.length → pw l i j = numN ((l.drop (8 * i)).take j) := by
  intro j
  induction j with
  | zero => intro _; simp [pw, numN]
  | succ j ih =>
    intro hj
    rw [pw, ih (by omega), numN_take _ j (by rw [List.length_drop]; omega)]
    congr 2
    rw [List.getElem_drop, List.getD_eq_getElem?_getD, List.getElem?_eq_getElem (by omega)]
    rfl
theorem w0_num (l : List UInt8) (k : Nat) (h : 8 * k + 8 ≤ l.length) : (w0 l k).toNat = numN ((l.drop (8 * k)).take 8) := by
  rw [← pw_top, pw_num l k 8 h]
theorem WoIn.rdFrom {w wr : World} {l : List UInt8} {k : Nat} (h : WoIn w wr l k) (m : Nat) (hm : m < l.length) : Rd wr wr.heap.size (some ⟨w.heap.size, m, none⟩) (l.drop m) := by
  refine .inr ⟨w.heap.size, m, rfl, lt_of_heap h.1, fun j hj => ?_⟩
  rw [List.length_drop] at hj
  rw [h.byte (m + j) (by omega), List.getElem_drop, List.getD_eq_getElem?_getD, List.getElem?_eq_getElem (by omega)]
  rfl

set_option maxHeartbeats 1000000 in
set_option maxRecDepth 100000 in
theorem words_any (l : List UInt8) (w : World) (hl : l.length = 128) :
    Calls Tryd.prog 38 #[.agg (bvs l).toArray] w fun e w' => e = .returned (.agg (wvs (wl l 80)).toArray) ∧ Grown w w' := by
  have Hl := Lib.hid hl
  clear hl
  obtain ⟨C, hC⟩ : ∃ C, C = (bvs l).toArray := ⟨_, rfl⟩
  rw [← hC]
  have HC := Lib.hid hC
  clear hC
  obtain ⟨Z, hZ⟩ : ∃ Z, Z = (wvs (List.replicate 80 0)).toArray := ⟨_, rfl⟩
  have hz : ∀ W : World, (zeroValue 69).run Tryd.prog W = .ok (.agg Z) W := fun W => by rw [hZ]; exact zero_80 W
  have HZ := Lib.hid hZ
  clear hZ
  go_enter Tryd.func38, Tryd.ntmps38
  go_wp2
  go_loopw [6] (fun i wr => ∃ k : Nat, k ≤ 16 ∧ i = .int .i64 (k : Int) ∧ Hid (WoIn w wr l k)) (fun i _ => 16 - (intOf i).toNat)
  case atStart => exact ⟨0, by omega, rfl, WoIn.start w HC.out HZ.out HZ.out⟩
  case round =>
    clear hz HZ
    obtain ⟨k, hk, rfl, HI⟩ := hrel
    by_cases hlt : k < 16
    · obtain ⟨m0, hm0⟩ : ∃ m0, 8 * k = m0 := ⟨_, rfl⟩
      have hw0 := wl_first l k hlt
      have hk80 : (k : Int) < 80 := by omega
      have b0 : (m0 : Int) < 128 := by omega
      have e0 : IntKind.i64.wrap (8 * (k : Int)) = (m0 : Int) := by rw [IntKind.wrap_i64]; omega
      obtain ⟨x, hx⟩ : ∃ x, w0 l k = x := ⟨_, rfl⟩
      rw [hx] at hw0
      have Hw0 := Lib.hid hw0.symm
      have hcut := fun W : World => cut_arr W w.heap.size m0 (by omega)
      have hn := HI.out.next (by omega)
      have hfr := HI.out.free k
      go_wp2_with fail
      refine (wordAt_any (some ⟨w.heap.size, m0, none⟩) (128 - m0) (128 - m0) (l.drop m0) wr (HI.out.rdFrom m0 (by rw [Hl.out]; omega)) (by rw [List.length_drop, Hl.out]) (by omega) (Nat.le_refl _)).mono ?_
      rintro e w2 ⟨rfl, rfl⟩
      rw [show numN ((l.drop m0).take 8) = x.toNat by rw [← hx, ← hm0, ← w0_num l k (by rw [Hl.out]; omega)]]
      clear hm0 hx hw0 hcut e0 b0
      go_wp2
      go_roundw
      case rel => exact ⟨k + 1, by omega, by go_num, HI.out.put (by omega) Hw0.out⟩
      case measure => simp [intOf]; omega
    · obtain rfl : k = 16 := by omega
      rw [show ((16 : Nat) : Int) = 16 from rfl]
      go_wp2
      go_loopw [5] (fun i wr => ∃ t : Nat, 16 ≤ t ∧ t ≤ 80 ∧ i = .int .i64 (t : Int) ∧ Hid (WoIn w wr l t)) (fun i _ => 80 - (intOf i).toNat)
      case atStart => exact ⟨16, by omega, by omega, rfl, HI.out⟩
      case round =>
        clear HI hlt hk
        obtain ⟨t, ht, ht2, rfl, HI⟩ := hrel
        by_cases hlt : t < 80
        · obtain ⟨m2, hm2⟩ : ∃ m2, m2 = t - 2 := ⟨_, rfl⟩
          obtain ⟨m7, hm7⟩ : ∃ m7, m7 = t - 7 := ⟨_, rfl⟩
          obtain ⟨m15, hm15⟩ : ∃ m15, m15 = t - 15 := ⟨_, rfl⟩
          obtain ⟨m16, hm16⟩ : ∃ m16, m16 = t - 16 := ⟨_, rfl⟩
          have hc2 := HI.out.word m2 (by omega)
          have hc7 := HI.out.word m7 (by omega)
          have hc15 := HI.out.word m15 (by omega)
          have hc16 := HI.out.word m16 (by omega)
          have Hn := wl_next l t (by omega)
          rw [← hm2, ← hm7, ← hm15, ← hm16] at Hn
          have b2 : (m2 : Int) < 80 := by omega
          have b7 : (m7 : Int) < 80 := by omega
          have b15 : (m15 : Int) < 80 := by omega
          have b16 : (m16 : Int) < 80 := by omega
          have bt : (t : Int) < 80 := by omega
          have e2 : IntKind.i64.wrap ((t : Int) - 2) = (m2 : Int) := by rw [IntKind.wrap_i64]; omega
          have e7 : IntKind.i64.wrap ((t : Int) - 7) = (m7 : Int) := by rw [IntKind.wrap_i64]; omega
          have e15 : IntKind.i64.wrap ((t : Int) - 15) = (m15 : Int) := by rw [IntKind.wrap_i64]; omega
          have e16 : IntKind.i64.wrap ((t : Int) - 16) = (m16 : Int) := by rw [IntKind.wrap_i64]; omega
          clear hm2 hm7 hm15 hm16
          generalize (wl l t).getD m2 0 = x2 at hc2 Hn
          generalize (wl l t).getD m7 0 = x7 at hc7 Hn
          generalize (wl l t).getD m15 0 = x15 at hc15 Hn
          generalize (wl l t).getD m16 0 = x16 at hc16 Hn
          obtain ⟨z1, hz1⟩ : ∃ z, s1 x2 = z := ⟨_, rfl⟩
          obtain ⟨z0, hz0⟩ : ∃ z, s0 x15 = z := ⟨_, rfl⟩
          obtain ⟨y, hy⟩ : ∃ y, wp (wp (wp z1 x7) z0) x16 = y := ⟨_, rfl⟩
          have Hy := Lib.hid (show wl l t ++ [y] = wl l (t + 1) by rw [Hn, ← hy, ← hz1, ← hz0])
          clear Hn
          have q1 : IntKind.u64.wrap ((z1.toNat : Int) + (x7.toNat : Int)) = ((wp z1 x7).toNat : Int) := i_addw _ _
          have q2 : IntKind.u64.wrap (((wp z1 x7).toNat : Int) + (z0.toNat : Int)) = ((wp (wp z1 x7) z0).toNat : Int) := i_addw _ _
          have q3 : IntKind.u64.wrap (((wp (wp z1 x7) z0).toNat : Int) + (x16.toNat : Int)) = (y.toNat : Int) := by rw [i_addw, hy]
          have c1 : Calls Tryd.prog 42 #[.int .u64 (x2.toNat : Int)] wr.drew (fun e w'' => e = .returned (.int .u64 (z1.toNat : Int)) ∧ w'' = wr.drew) := (extend2_any x2 wr.drew).mono fun e w'' h => ⟨by rw [h.1, hz1], h.2.symm⟩
          have c2 : Calls Tryd.prog 43 #[.int .u64 (x15.toNat : Int)] wr.drew (fun e w'' => e = .returned (.int .u64 (z0.toNat : Int)) ∧ w'' = wr.drew) := (extend15_any x15 wr.drew).mono fun e w'' h => ⟨by rw [h.1, hz0], h.2.symm⟩
          have C1 := Lib.hid c1
          have C2 := Lib.hid c2
          clear hz1 hz0 hy c1 c2
          go_wp2
          refine wp_region_still_tail 23 (by kernel_rfl) (by kernel_rfl) ?_
          simp only [List.take_succ_cons, List.take_zero, List.drop_succ_cons, List.drop_zero]
          repeat (first | still_step | still_call C1.out | still_call C2.out)
          refine wpStill_nil ?_
          change wpList _ _ _ _ _ wr.drew
          clear e2 e7 e15 e16 b2 b7 b15 b16 q1 q2 q3 hc2 hc7 hc15 hc16 C1 C2
          have HI2 := Lib.hid HI.out.drew
          clear HI
          generalize wr.drew = w2 at *
          have hn := HI2.out.next (by omega)
          have hfr := HI2.out.free t
          go_wp2
          go_roundw
          case rel => exact ⟨t + 1, by omega, by omega, by go_num, HI2.out.put (by omega) Hy.out⟩
          case measure => simp [intOf]; omega
        · obtain rfl : t = 80 := by omega
          rw [show ((80 : Nat) : Int) = 80 from rfl]
          obtain ⟨D, hD⟩ : ∃ D, D = (wvs (wl l 80)).toArray := ⟨_, rfl⟩
          have hDs : D.size = 80 := by rw [hD]; simp [wvs, wl_len]
          have h1 := HI.out.2.1
          have h3 := HI.out.2.2.1
          have h4 := HI.out.2.2.2
          rw [Nat.sub_self, List.replicate_zero, List.append_nil, ← hD] at h3
          have H1 := Lib.hid h1
          have H3 := Lib.hid h3
          have H4 := Lib.hid h4
          have Hi := Lib.hid (show (Tryd.prog.info? 69).map (·.size) = some D.size by rw [hDs]; exact i80W)
          have Hsz := Lib.hid hDs
          have Hone := Lib.hid (show D.all (·.oneCell') = true by rw [hD]; exact all_oneCell_toArray (wvs_one _))
          have HD := Lib.hid hD
          clear hD hDs h1 h3 h4 HI hlt ht ht2
          go_wp2_with (first
            | (refine wpList_load_row rfl 69 (.tmp 3) rfl _ rfl H3.out u80W rfl Hi.out ?_)
            | (refine wpList_store_row rfl 69 (.tmp 2) (.tmp 43) rfl rfl rfl H1.out Hi.out (by rw [Hsz.out]; simp [wvs]) Hone.out ?_))
          refine ret_row rfl _ rfl (setRow_at H1.out) u80W rfl Hi.out ⟨by rw [HD.out], ?_⟩
          exact Below.setRow' H4.out (by omega) _
end Go.Proofs.YtbofikghcoalbaaDoor.S4
