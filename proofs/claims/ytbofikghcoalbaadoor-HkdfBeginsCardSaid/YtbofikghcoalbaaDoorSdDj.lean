/-
  Contract of the program's digest: the bytes of the value.
-/
import Derived.Test.YtbofikghcoalbaaDoorSdPw
import Derived.Test.YtbofikghcoalbaaDoorSbAx
namespace Go.Proofs.YtbofikghcoalbaaDoor.S4
open Go.RowKit
set_option linter.unusedVariables false
set_option linter.unusedSimpArgs false

/-- The first k words of a value, as bytes; behind them noughts. -/
def dout (v : St) (k : Nat) : List UInt8 := (digest v).take (8 * k) ++ List.replicate (64 - 8 * k) 0
theorem dout_len (v : St) (k : Nat) (hk : k ≤ 8) : (dout v k).length = 64 := by simp [dout, digest_len]; omega
theorem dout_next (v : St) (k : Nat) (hk : k < 8) : (dout v k).take (8 * k) ++ (be (v.l.getD k 0).toNat ++ (dout v k).drop (8 * k + 8)) = dout v (k + 1) := by
  match k, hk with
  | 0, _ | 1, _ | 2, _ | 3, _ | 4, _ | 5, _ | 6, _ | 7, _ => rfl
theorem dout_top (v : St) : dout v 8 = digest v := by
  simp only [dout]
  rw [List.take_of_length_le (by rw [digest_len]; omega)]
  simp
/-- Where digest stands: its row of bytes holds o. -/
def DiIn (w wr : World) (o : List UInt8) : Prop :=
  Blk wr (w.heap.size + 1) 24 o ∧ (∃ z, wr.heap[w.heap.size]? = some (.cells z 24 (0, 0)) ∧ z.size = 64) ∧ Below w.heap.size w wr ∧ o.length = 64
theorem DiIn.start (w : World) {v : St} {c1 c2 : Array Value} (h1 : c1.size = 64) (h2 : c2 = (bvs (List.replicate 64 0)).toArray) :
    DiIn w ((w.alloc (.cells c1 24)).alloc (.cells c2 24)) (dout v 0) := by
  subst h2
  refine ⟨?_, ⟨c1, ?_, h1⟩, ((alloc_below w _).alloc (by simp) _), by simp [dout]⟩
  · have := heap_alloc_new (w.alloc (.cells c1 24)) (.cells (bvs (List.replicate 64 0)).toArray 24)
    rwa [show (w.alloc (.cells c1 24)).heap.size = w.heap.size + 1 by simp] at this
  · rw [Below.heap_alloc _ _ _ (by simp), heap_alloc_new]
theorem u64D : Tryd.prog.underlying 24 = some (.array 64 5) := by kernel_rfl
theorem zero_64 (W : World) : (zeroValue 24).run Tryd.prog W = .ok (.agg (bvs (List.replicate 64 0)).toArray) W := by kernel_rfl
theorem cut_out (W : World) (g h : Nat) (hh : h < 64) : (Instr.sliceAt 24 (.pointer (some ⟨g, 0, none⟩)) (some (.int .i64 (h : Int))) none none).run Tryd.prog W = .ok (.slice (some ⟨g, h, none⟩) (64 - h) (64 - h)) W := by
  obtain ⟨i0, hi, hz0, hz1, hz2⟩ := info_parts info5
  have he : Tryd.prog.elem 24 = 5 := by kernel_rfl
  have hl : Tryd.prog.arrayLen 24 = 64 := by kernel_rfl
  rw [run_sliceAt_array_l (P := Tryd.prog) W 24 ⟨g, 0, none⟩ (by rw [he, hl]; exact u64D) .i64 (h : Int) (by omega) (by rw [hl]; omega), he, hl]
  simp [sizeOf, typeInfo, hi, hz1, slicedAt, sliced, Result.andThen, Addr.add_mid]
  omega

set_option maxHeartbeats 4000000 in
set_option maxRecDepth 100000 in
theorem digest_any (g : Nat) (v : St) (buf : List UInt8) (h : Nat) (w : World) (hd : Dg w g v buf h) :
    Calls Tryd.prog 28 #[.pointer (some ⟨g, 0, none⟩)] w fun e w' => e = .returned (.agg (arr (digest v))) ∧ Grown w w' := by
  obtain ⟨Z, hZ⟩ : ∃ Z, Z = (bvs (List.replicate 64 0)).toArray := ⟨_, rfl⟩
  have hz : ∀ W : World, (zeroValue 24).run Tryd.prog W = .ok (.agg Z) W := fun W => by rw [hZ]; exact zero_64 W
  have HZs := Lib.hid (show Z.size = 64 by rw [hZ]; simp [bvs])
  have HZ0 := Lib.hid hZ
  clear hZ
  have Hd := Lib.hid (hd.grow (Grown.trans (alloc_below w (.cells Z 24)) (alloc_below _ (.cells Z 24))))
  have Hi8 := Lib.hid (show (Tryd.prog.info? 49).map (·.size) = some (wvs v.l).length by rw [show (wvs v.l).length = 8 by simp [wvs, St.l]]; exact i8W)
  clear hd
  go_enter Tryd.func28, Tryd.ntmps28
  go_wp2_with (first
    | (refine wpList_load_mid rfl 49 (.tmp 8) rfl g 0 rfl _ _ Hd.out.value u8W rfl Hi8.out ?_))
  clear hz
  obtain ⟨V, hV⟩ : ∃ V, V = (wvs v.l).toArray := ⟨_, rfl⟩
  rw [← hV]
  have HV := Lib.hid hV
  clear hV
  go_loopw [10] (fun i wr => ∃ k : Nat, k ≤ 8 ∧ i = .int .i64 (k : Int) ∧ Hid (DiIn w wr (dout v k))) (fun i _ => 8 - (intOf i).toNat)
  case atStart => exact ⟨0, by omega, rfl, DiIn.start w HZs.out HZ0.out⟩
  case round =>
    clear Hd HZs HZ0
    obtain ⟨k, hk, rfl, HI⟩ := hrel
    by_cases hlt : k < 8
    · obtain ⟨x, hx⟩ : ∃ x, v.l.getD k 0 = x := ⟨_, rfl⟩
      have hix : ∀ W : World, (Instr.index 49 (.agg V) (.int .i64 (k : Int))).run Tryd.prog W = .ok (.int .u64 (x.toNat : Int)) W := fun W => by rw [HV.out, ← hx]; exact idxW (ws := v.l) u8W rfl k hlt W
      have Hnx := dout_next v k hlt
      rw [hx] at Hnx
      obtain ⟨m0, hm0⟩ : ∃ m0, 8 * k = m0 := ⟨_, rfl⟩
      rw [hm0] at Hnx
      have Hn := Lib.hid Hnx
      have e0 : IntKind.i64.wrap (8 * (k : Int)) = (m0 : Int) := by rw [IntKind.wrap_i64]; omega
      have hcut := fun W : World => cut_out W (w.heap.size + 1) m0 (by omega)
      have hm64 : m0 + 8 ≤ 64 := by omega
      clear hm0 Hnx hx
      go_wp2_with fail
      refine (putWord_any (w.heap.size + 1) m0 (64 - m0) (64 - m0) x.toNat 24 (dout v k) wr HI.out.1 (by omega) (by rw [dout_len v k hk]; exact hm64)).mono ?_
      rintro e w2 ⟨rfl, hb2, hc2⟩
      rw [Hn.out] at hb2
      have HI2 := Lib.hid (show DiIn w w2 (dout v (k + 1)) by
        obtain ⟨_, ⟨z, h2, h3⟩, h4, _⟩ := HI.out
        exact ⟨hb2, ⟨z, (hc2.block _ (lt_of_heap h2) (by omega)).trans h2, h3⟩, hc2.below h4 (Nat.le_refl _) (by omega), dout_len v (k + 1) hlt⟩)
      clear hb2 hc2 HI hcut hix
      go_wp2
      go_roundw
      case rel => exact ⟨k + 1, by omega, by go_num, HI2.out⟩
      case measure => simp [intOf]; omega
    · obtain rfl : k = 8 := by omega
      rw [show ((8 : Nat) : Int) = 8 from rfl]
      obtain ⟨E, hE⟩ : ∃ E, E = arr (digest v) := ⟨_, rfl⟩
      have h1 := HI.out.1
      unfold Blk at h1
      rw [dout_top, show (bvs (digest v)).toArray = E from hE.symm] at h1
      obtain ⟨Z2, h2, hZ⟩ := HI.out.2.1
      have H1 := Lib.hid h1
      have H2 := Lib.hid h2
      have HZ := Lib.hid hZ
      have H4 := Lib.hid HI.out.2.2.1
      have hEs : E.size = 64 := by rw [hE, arr_size, digest_len]
      have Hi := Lib.hid (show (Tryd.prog.info? 24).map (·.size) = some E.size by rw [hEs]; exact infoA)
      have Hsz := Lib.hid hEs
      have Hone := Lib.hid (show E.all (·.oneCell') = true by rw [hE]; exact arr_one _)
      have HE := Lib.hid hE
      clear hE hEs h1 h2 hZ HI hlt hk
      go_wp2_with (first
        | (refine wpList_load_row rfl 24 (.tmp 3) rfl _ rfl H1.out u64D rfl Hi.out ?_)
        | (refine wpList_store_row rfl 24 (.tmp 2) (.tmp 20) rfl rfl rfl H2.out Hi.out (by rw [HZ.out, Hsz.out]) Hone.out ?_))
      refine ret_row rfl _ rfl (setRow_at H2.out) u64D rfl Hi.out ⟨by rw [HE.out], ?_⟩
      exact Below.setRow' H4.out (by omega) _
end Go.Proofs.YtbofikghcoalbaaDoor.S4
