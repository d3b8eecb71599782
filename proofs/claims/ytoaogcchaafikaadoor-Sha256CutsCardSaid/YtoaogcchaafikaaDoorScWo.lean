/-
  Contract of the program's wordsOf: the words of a block, extended.
-/
import Derived.Test.YtoaogcchaafikaaDoorScRo
import Derived.Test.YtoaogcchaafikaaDoorSaOn
import Derived.Test.YtoaogcchaafikaaDoorScKt
import Derived.Deep.MidRow
import Derived.StillTailTactics
namespace Go.Proofs.YtoaogcchaafikaaDoor.S3
open Go.RowKit
set_option linter.unusedVariables false
set_option linter.unusedSimpArgs false

/-- Where wordsOf stands: k words are there. -/
def WoIn (w wr : World) (l : List UInt8) (k : Nat) : Prop :=
  wr.heap[w.heap.size]? = some (.cells (bvs l).toArray 36 (0, 0)) ∧ wr.heap[w.heap.size + 1]? = some (.cells (wvs (List.replicate 64 0)).toArray 49 (0, 0)) ∧
  wr.heap[w.heap.size + 2]? = some (.cells (wvs (wl l k ++ List.replicate (64 - k) 0)).toArray 49 (0, 0)) ∧ Below w.heap.size w wr

theorem or4 (a b c d : Nat) (ha : a < 256) (hb : b < 256) (hc : c < 256) (hd : d < 256) :
    bits .or .u32 (bits .or .u32 (bits .or .u32 ((a : Int) * 16777216) ((b : Int) * 65536)) ((c : Int) * 256)) (d : Int) = ((((a * 256 + b) * 256 + c) * 256 + d : Nat) : Int) := by
  have e1 : (a : Int) * 16777216 = ((a * 16777216 : Nat) : Int) := by omega
  have e2 : (b : Int) * 65536 = ((b * 65536 : Nat) : Int) := by omega
  have e3 : (c : Int) * 256 = ((c * 256 : Nat) : Int) := by omega
  have o1 : a * 16777216 ||| b * 65536 = (a * 256 + b) * 65536 := by
    have := Nat.two_pow_add_eq_or_of_lt (i := 24) (b := b * 65536) (by omega) a
    rw [show a * 16777216 = 2 ^ 24 * a by omega, ← this]; omega
  have o2 : (a * 256 + b) * 65536 ||| c * 256 = ((a * 256 + b) * 256 + c) * 256 := by
    have := Nat.two_pow_add_eq_or_of_lt (i := 16) (b := c * 256) (by omega) (a * 256 + b)
    rw [show (a * 256 + b) * 65536 = 2 ^ 16 * (a * 256 + b) by omega, ← this]; omega
  have o3 : ((a * 256 + b) * 256 + c) * 256 ||| d = ((a * 256 + b) * 256 + c) * 256 + d := by
    have := Nat.two_pow_add_eq_or_of_lt (i := 8) (b := d) (by omega) ((a * 256 + b) * 256 + c)
    rw [show ((a * 256 + b) * 256 + c) * 256 = 2 ^ 8 * ((a * 256 + b) * 256 + c) by omega, ← this]
  rw [e1, e2, e3, u32_or_nat _ _ (by omega) (by omega), o1, u32_or_nat _ _ (by omega) (by omega), o2, u32_or_nat _ _ (by omega) (by omega), o3]
theorem WoIn.start (w : World) {l : List UInt8} {C c1 c2 : Array Value} (hC : C = (bvs l).toArray) (h1 : c1 = (wvs (List.replicate 64 0)).toArray) (h2 : c2 = (wvs (List.replicate 64 0)).toArray) :
    WoIn w (((w.alloc (.cells C 36)).alloc (.cells c1 49)).alloc (.cells c2 49)) l 0 := by
  subst hC h1 h2
  refine ⟨?_, ?_, ?_, (((alloc_below w _).alloc (by simp) _).alloc (by simp; omega) _)⟩
  · rw [Below.heap_alloc _ _ _ (by simp; omega), Below.heap_alloc _ _ _ (by simp), heap_alloc_new]
  · rw [Below.heap_alloc _ _ _ (by simp)]
    have := heap_alloc_new (w.alloc (.cells (bvs l).toArray 36)) (.cells (wvs (List.replicate 64 0)).toArray 49)
    rwa [show (w.alloc (.cells (bvs l).toArray 36)).heap.size = w.heap.size + 1 by simp] at this
  · have := heap_alloc_new ((w.alloc (.cells (bvs l).toArray 36)).alloc (.cells (wvs (List.replicate 64 0)).toArray 49)) (.cells (wvs (List.replicate 64 0)).toArray 49)
    rwa [show ((w.alloc (.cells (bvs l).toArray 36)).alloc (.cells (wvs (List.replicate 64 0)).toArray 49)).heap.size = w.heap.size + 2 by simp] at this
theorem WoIn.drew {w wr : World} {l : List UInt8} {k : Nat} (h : WoIn w wr l k) : WoIn w wr.drew l k := ⟨h.1, h.2.1, h.2.2.1, ⟨h.2.2.2.os, h.2.2.2.tape, h.2.2.2.output, h.2.2.2.size, h.2.2.2.block⟩⟩
theorem WoIn.byte {w wr : World} {l : List UInt8} {k : Nat} (h : WoIn w wr l k) (i : Nat) (hi : i < l.length) : wr.cell? ⟨w.heap.size, i, none⟩ = some (.int .u8 ((l.getD i 0).toNat : Int)) := by
  rw [cell_of_row wr _ i _ _ _ h.1]
  simp [bvs, bv, hi]
theorem WoIn.word {w wr : World} {l : List UInt8} {k : Nat} (h : WoIn w wr l k) (i : Nat) (hi : i < k) : wr.cell? ⟨w.heap.size + 1 + 1, i, none⟩ = some (.int .u32 (((wl l k).getD i 0).toNat : Int)) := by
  have hl := wl_len l k
  rw [cell_of_row wr _ i _ _ _ h.2.2.1]
  simp only [List.getElem?_toArray, wvs, List.getElem?_map]
  rw [List.getElem?_append_left (by omega), List.getElem?_eq_getElem (by omega), List.getD_eq_getElem?_getD, List.getElem?_eq_getElem (by omega)]
  rfl
theorem WoIn.next {w wr : World} {l : List UInt8} {k : Nat} (h : WoIn w wr l k) (hk : k < 64) : wr.cell? ⟨w.heap.size + 1 + 1, k, none⟩ = some (.int .u32 0) := by
  have hl := wl_len l k
  rw [cell_of_row wr _ k _ _ _ h.2.2.1]
  simp only [List.getElem?_toArray, wvs, List.getElem?_map]
  rw [List.getElem?_append_right (by omega), hl, Nat.sub_self, List.getElem?_replicate, if_pos (by omega)]
  rfl
theorem WoIn.free {w wr : World} {l : List UInt8} {k : Nat} (h : WoIn w wr l k) (i : Nat) : wr.frozen? ⟨w.heap.size + 1 + 1, i, none⟩ = false := frozen_of_row wr _ i _ _ h.2.2.1
theorem WoIn.put {w wr : World} {l : List UInt8} {k : Nat} (h : WoIn w wr l k) (hk : k < 64) {x : UInt32} (hx : wl l k ++ [x] = wl l (k + 1)) : WoIn w (wr.setCell ⟨w.heap.size + 1 + 1, k, none⟩ (.int .u32 (x.toNat : Int))) l (k + 1) := by
  have hl := wl_len l k
  obtain ⟨h1, h2, h3, h4⟩ := h
  refine ⟨(Below.heap_setCell wr _ _ _ (by show w.heap.size ≠ w.heap.size + 1 + 1; omega)).trans h1, (Below.heap_setCell wr _ _ _ (by show w.heap.size + 1 ≠ w.heap.size + 1 + 1; omega)).trans h2, ?_, h4.setCell (by show w.heap.size ≤ w.heap.size + 1 + 1; omega) _⟩
  have := heap_setCell_same wr (w.heap.size + 1 + 1) k _ _ (.int .u32 (x.toNat : Int)) h3
  rw [this, ← hx]
  congr 2
  simp only [List.setIfInBounds_toArray, wvs]
  congr 1
  rw [show Value.int .u32 (x.toNat : Int) = wv x from rfl, ← List.map_set, List.set_append_right _ _ (by omega), hl, Nat.sub_self, show 64 - k = (64 - (k + 1)) + 1 by omega, List.replicate_succ, List.set_cons_zero]
  simp

set_option maxHeartbeats 1000000 in
set_option maxRecDepth 100000 in
theorem words_any (l : List UInt8) (w : World) (hl : l.length = 64) :
    Calls Tryd.prog 19 #[.agg (bvs l).toArray] w fun e w' => e = .returned (.agg (wvs (wl l 64)).toArray) ∧ Grown w w' := by
  have Hl := Lib.hid hl
  clear hl
  obtain ⟨C, hC⟩ : ∃ C, C = (bvs l).toArray := ⟨_, rfl⟩
  rw [← hC]
  have HC := Lib.hid hC
  clear hC
  go_enter Tryd.func19, Tryd.ntmps19
  go_wp2
  go_loopw [6] (fun i wr => ∃ k : Nat, k ≤ 16 ∧ i = .int .i64 (k : Int) ∧ Hid (WoIn w wr l k)) (fun i _ => 16 - (intOf i).toNat)
  case atStart => exact ⟨0, by omega, rfl, WoIn.start w HC.out rfl rfl⟩
  case round =>
    obtain ⟨k, hk, rfl, HI⟩ := hrel
    by_cases hlt : k < 16
    · obtain ⟨m0, hm0⟩ : ∃ m0, 4 * k = m0 := ⟨_, rfl⟩
      obtain ⟨m1, hm1⟩ : ∃ m1, 4 * k + 1 = m1 := ⟨_, rfl⟩
      obtain ⟨m2, hm2⟩ : ∃ m2, 4 * k + 2 = m2 := ⟨_, rfl⟩
      obtain ⟨m3, hm3⟩ : ∃ m3, 4 * k + 3 = m3 := ⟨_, rfl⟩
      have hpw : (w0 l k).toNat = (((l.getD (4 * k) 0).toNat * 256 + (l.getD (4 * k + 1) 0).toNat) * 256 + (l.getD (4 * k + 2) 0).toNat) * 256 + (l.getD (4 * k + 3) 0).toNat := by
        rw [← pw_top]; simp [pw]
      rw [hm3, hm2, hm1, hm0] at hpw
      have hc0 := HI.out.byte m0 (by rw [Hl.out]; omega)
      have hc1 := HI.out.byte m1 (by rw [Hl.out]; omega)
      have hc2 := HI.out.byte m2 (by rw [Hl.out]; omega)
      have hc3 := HI.out.byte m3 (by rw [Hl.out]; omega)
      have hw0 := wl_first l k hlt
      have b0 : (m0 : Int) < 64 := by omega
      have b1 : (m1 : Int) < 64 := by omega
      have b2 : (m2 : Int) < 64 := by omega
      have b3 : (m3 : Int) < 64 := by omega
      have hk64 : (k : Int) < 64 := by omega
      have e0 : IntKind.i64.wrap (4 * (k : Int)) = (m0 : Int) := by rw [IntKind.wrap_i64]; omega
      have e1 : IntKind.i64.wrap ((m0 : Int) + 1) = (m1 : Int) := by rw [IntKind.wrap_i64]; omega
      have e2 : IntKind.i64.wrap ((m0 : Int) + 2) = (m2 : Int) := by rw [IntKind.wrap_i64]; omega
      have e3 : IntKind.i64.wrap ((m0 : Int) + 3) = (m3 : Int) := by rw [IntKind.wrap_i64]; omega
      clear hm0 hm1 hm2 hm3
      generalize l.getD m0 0 = y0 at hc0 hpw
      generalize l.getD m1 0 = y1 at hc1 hpw
      generalize l.getD m2 0 = y2 at hc2 hpw
      generalize l.getD m3 0 = y3 at hc3 hpw
      have l0 := u8_lt y0
      have l1 := u8_lt y1
      have l2 := u8_lt y2
      have l3 := u8_lt y3
      obtain ⟨x, hx⟩ : ∃ x, w0 l k = x := ⟨_, rfl⟩
      rw [hx] at hpw hw0
      have Hw0 := Lib.hid hw0.symm
      have v0 : IntKind.u32.wrap (y0.toNat : Int) = (y0.toNat : Int) := by rw [IntKind.wrap_u32]; omega
      have v1 : IntKind.u32.wrap (y1.toNat : Int) = (y1.toNat : Int) := by rw [IntKind.wrap_u32]; omega
      have v2 : IntKind.u32.wrap (y2.toNat : Int) = (y2.toNat : Int) := by rw [IntKind.wrap_u32]; omega
      have v3 : IntKind.u32.wrap (y3.toNat : Int) = (y3.toNat : Int) := by rw [IntKind.wrap_u32]; omega
      have q0 : IntKind.u32.wrap ((y0.toNat : Int) * 16777216) = (y0.toNat : Int) * 16777216 := by rw [IntKind.wrap_u32]; omega
      have q1 : IntKind.u32.wrap ((y1.toNat : Int) * 65536) = (y1.toNat : Int) * 65536 := by rw [IntKind.wrap_u32]; omega
      have q2 : IntKind.u32.wrap ((y2.toNat : Int) * 256) = (y2.toNat : Int) * 256 := by rw [IntKind.wrap_u32]; omega
      have qo := or4 y0.toNat y1.toNat y2.toNat y3.toNat l0 l1 l2 l3
      rw [← hpw] at qo
      clear hpw hx hw0 l0 l1 l2 l3
      go_wp2
      go_still_tail 31, (by kernel_rfl)
      change wpList _ _ _ _ _ wr.drew
      clear e0 e1 e2 e3 b0 b1 b2 b3 v0 v1 v2 v3 q0 q1 q2 qo hc0 hc1 hc2 hc3
      have HI2 := Lib.hid HI.out.drew
      clear HI
      generalize wr.drew = w2 at *
      have hn := HI2.out.next (by omega)
      have hfr := HI2.out.free k
      go_wp2
      go_roundw
      case rel => exact ⟨k + 1, by omega, by go_num, HI2.out.put (by omega) Hw0.out⟩
      case measure => simp [intOf]; omega
    · obtain rfl : k = 16 := by omega
      rw [show ((16 : Nat) : Int) = 16 from rfl]
      go_wp2
      go_loopw [5] (fun i wr => ∃ t : Nat, 16 ≤ t ∧ t ≤ 64 ∧ i = .int .i64 (t : Int) ∧ Hid (WoIn w wr l t)) (fun i _ => 64 - (intOf i).toNat)
      case atStart => exact ⟨16, by omega, by omega, rfl, HI.out⟩
      case round =>
        clear HI hlt hk
        obtain ⟨t, ht, ht2, rfl, HI⟩ := hrel
        by_cases hlt : t < 64
        · obtain ⟨m2, hm2⟩ : ∃ m2, m2 = t - 2 := ⟨_, rfl⟩
          obtain ⟨m7, hm7⟩ : ∃ m7, m7 = t - 7 := ⟨_, rfl⟩
          obtain ⟨m15, hm15⟩ : ∃ m15, m15 = t - 15 := ⟨_, rfl⟩
          obtain ⟨m16, hm16⟩ : ∃ m16, m16 = t - 16 := ⟨_, rfl⟩
          have hc2 := HI.out.word m2 (by omega)
          have hc7 := HI.out.word m7 (by omega)
          have hc15 := HI.out.word m15 (by omega)
          have hc16 := HI.out.word m16 (by omega)
          have Hn := wl_next l t (by omega)
          rw [← hm2, ← hm7, ← hm15, ← hm16] at Hn
          have b2 : (m2 : Int) < 64 := by omega
          have b7 : (m7 : Int) < 64 := by omega
          have b15 : (m15 : Int) < 64 := by omega
          have b16 : (m16 : Int) < 64 := by omega
          have bt : (t : Int) < 64 := by omega
          have e2 : IntKind.i64.wrap ((t : Int) - 2) = (m2 : Int) := by rw [IntKind.wrap_i64]; omega
          have e7 : IntKind.i64.wrap ((t : Int) - 7) = (m7 : Int) := by rw [IntKind.wrap_i64]; omega
          have e15 : IntKind.i64.wrap ((t : Int) - 15) = (m15 : Int) := by rw [IntKind.wrap_i64]; omega
          have e16 : IntKind.i64.wrap ((t : Int) - 16) = (m16 : Int) := by rw [IntKind.wrap_i64]; omega
          clear hm2 hm7 hm15 hm16
          generalize (wl l t).getD m2 0 = x2 at hc2 Hn
          generalize (wl l t).getD m7 0 = x7 at hc7 Hn
          generalize (wl l t).getD m15 0 = x15 at hc15 Hn
          generalize (wl l t).getD m16 0 = x16 at hc16 Hn
          obtain ⟨z1, hz1⟩ : ∃ z, s1 x2 = z := ⟨_, rfl⟩
          obtain ⟨z0, hz0⟩ : ∃ z, s0 x15 = z := ⟨_, rfl⟩
          obtain ⟨y, hy⟩ : ∃ y, wp (wp (wp z1 x7) z0) x16 = y := ⟨_, rfl⟩
          have Hy := Lib.hid (show wl l t ++ [y] = wl l (t + 1) by rw [Hn, ← hy, ← hz1, ← hz0])
          clear Hn
          have q1 : IntKind.u32.wrap ((z1.toNat : Int) + (x7.toNat : Int)) = ((wp z1 x7).toNat : Int) := i_addw _ _
          have q2 : IntKind.u32.wrap (((wp z1 x7).toNat : Int) + (z0.toNat : Int)) = ((wp (wp z1 x7) z0).toNat : Int) := i_addw _ _
          have q3 : IntKind.u32.wrap (((wp (wp z1 x7) z0).toNat : Int) + (x16.toNat : Int)) = (y.toNat : Int) := by rw [i_addw, hy]
          have c1 : Calls Tryd.prog 22 #[.int .u32 (x2.toNat : Int)] wr.drew (fun e w'' => e = .returned (.int .u32 (z1.toNat : Int)) ∧ w'' = wr.drew) := (extend2_any x2 wr.drew).mono fun e w'' h => ⟨by rw [h.1, hz1], h.2.symm⟩
          have c2 : Calls Tryd.prog 23 #[.int .u32 (x15.toNat : Int)] wr.drew (fun e w'' => e = .returned (.int .u32 (z0.toNat : Int)) ∧ w'' = wr.drew) := (extend15_any x15 wr.drew).mono fun e w'' h => ⟨by rw [h.1, hz0], h.2.symm⟩
          have C1 := Lib.hid c1
          have C2 := Lib.hid c2
          clear hz1 hz0 hy c1 c2
          go_wp2
          refine wp_region_still_tail 23 (by kernel_rfl) (by kernel_rfl) ?_
          simp only [List.take_succ_cons, List.take_zero, List.drop_succ_cons, List.drop_zero]
          repeat (first | still_step | still_call C1.out | still_call C2.out)
          refine wpStill_nil ?_
          change wpList _ _ _ _ _ wr.drew
          clear e2 e7 e15 e16 b2 b7 b15 b16 q1 q2 q3 hc2 hc7 hc15 hc16 C1 C2
          have HI2 := Lib.hid HI.out.drew
          clear HI
          generalize wr.drew = w2 at *
          have hn := HI2.out.next (by omega)
          have hfr := HI2.out.free t
          go_wp2
          go_roundw
          case rel => exact ⟨t + 1, by omega, by omega, by go_num, HI2.out.put (by omega) Hy.out⟩
          case measure => simp [intOf]; omega
        · obtain rfl : t = 64 := by omega
          rw [show ((64 : Nat) : Int) = 64 from rfl]
          obtain ⟨D, hD⟩ : ∃ D, D = (wvs (wl l 64)).toArray := ⟨_, rfl⟩
          have hDs : D.size = 64 := by rw [hD]; simp [wvs, wl_len]
          have h1 := HI.out.2.1
          have h3 := HI.out.2.2.1
          have h4 := HI.out.2.2.2
          rw [Nat.sub_self, List.replicate_zero, List.append_nil, ← hD] at h3
          have H1 := Lib.hid h1
          have H3 := Lib.hid h3
          have H4 := Lib.hid h4
          have Hi := Lib.hid (show (Tryd.prog.info? 49).map (·.size) = some D.size by rw [hDs]; exact i64W)
          have Hsz := Lib.hid hDs
          have Hone := Lib.hid (show D.all (·.oneCell') = true by rw [hD]; exact all_oneCell_toArray (wvs_one _))
          have HD := Lib.hid hD
          clear hD hDs h1 h3 h4 HI hlt ht ht2
          go_wp2_with (first
            | (refine wpList_load_row rfl 49 (.tmp 3) rfl _ rfl H3.out u64W rfl Hi.out ?_)
            | (refine wpList_store_row rfl 49 (.tmp 2) (.tmp 68) rfl rfl rfl H1.out Hi.out (by rw [Hsz.out]; simp [wvs]) Hone.out ?_))
          refine ret_row rfl _ rfl (setRow_at H1.out) u64W rfl Hi.out ⟨by rw [HD.out], ?_⟩
          exact Below.setRow' H4.out (by omega) _
end Go.Proofs.YtoaogcchaafikaaDoor.S3
