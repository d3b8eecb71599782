/-
  Contract of the program's digest: the walk.
-/
import Derived.Test.YtoaogcchaafikaaDoorScDi
namespace Go.Proofs.YtoaogcchaafikaaDoor.S3
open Go.RowKit
set_option linter.unusedVariables false
set_option linter.unusedSimpArgs false

theorem DiIn.start (w : World) {v : St} {c1 c2 : Array Value} (h1 : c1.size = 32) (h2 : c2 = (bvs (List.replicate 32 0)).toArray) :
    DiIn w ((w.alloc (.cells c1 26)).alloc (.cells c2 26)) (dout v 0) := by
  subst h2
  refine ⟨?_, ⟨c1, ?_, h1⟩, ((alloc_below w _).alloc (by simp) _), by simp [dout]⟩
  · have := heap_alloc_new (w.alloc (.cells c1 26)) (.cells (bvs (List.replicate 32 0)).toArray 26)
    rwa [show (w.alloc (.cells c1 26)).heap.size = w.heap.size + 1 by simp] at this
  · rw [Below.heap_alloc _ _ _ (by simp), heap_alloc_new]
theorem u32B : Tryd.prog.underlying 26 = some (.array 32 5) := by kernel_rfl
theorem i1B : (Tryd.prog.info? 5).map (·.size) = some 1 := by kernel_rfl

set_option maxHeartbeats 4000000 in
set_option maxRecDepth 100000 in
theorem digest_any (g : Nat) (v : St) (buf : List UInt8) (h : Nat) (w : World) (hd : Dg w g v buf h) :
    Calls Tryd.prog 13 #[.pointer (some ⟨g, 0, none⟩)] w fun e w' => e = .returned (.agg (arr (digest v))) ∧ Grown w w' := by
  have Hd := Lib.hid (hd.grow (Grown.trans (alloc_below w (.cells (bvs (List.replicate 32 0)).toArray 26)) (alloc_below _ (.cells (bvs (List.replicate 32 0)).toArray 26))))
  have Hi8 := Lib.hid (show (Tryd.prog.info? 34).map (·.size) = some (wvs v.l).length by rw [show (wvs v.l).length = 8 by simp [wvs, St.l]]; exact i8W)
  clear hd
  go_enter Tryd.func13, Tryd.ntmps13
  go_wp2_with (first
    | (refine wpList_load_mid rfl 34 (.tmp 8) rfl g 0 rfl _ _ Hd.out.value u8W rfl Hi8.out ?_))
  obtain ⟨V, hV⟩ : ∃ V, V = (wvs v.l).toArray := ⟨_, rfl⟩
  rw [← hV]
  have HV := Lib.hid hV
  clear hV
  go_loopw [10] (fun i wr => ∃ k : Nat, k ≤ 8 ∧ i = .int .i64 (k : Int) ∧ Hid (DiIn w wr (dout v k))) (fun i _ => 8 - (intOf i).toNat)
  case atStart => exact ⟨0, by omega, rfl, DiIn.start w rfl rfl⟩
  case round =>
    clear Hd
    obtain ⟨k, hk, rfl, HI⟩ := hrel
    by_cases hlt : k < 8
    · obtain ⟨x, hx⟩ : ∃ x, v.l.getD k 0 = x := ⟨_, rfl⟩
      have hix : ∀ W : World, (Instr.index 34 (.agg V) (.int .i64 (k : Int))).run Tryd.prog W = .ok (.int .u32 (x.toNat : Int)) W := fun W => by rw [HV.out, ← hx]; exact idxW (ws := v.l) u8W rfl k hlt W
      have Hnx := dout_next v k hlt
      rw [hx] at Hnx
      obtain ⟨m0, hm0⟩ : ∃ m0, 4 * k = m0 := ⟨_, rfl⟩
      obtain ⟨m1, hm1⟩ : ∃ m1, 4 * k + 1 = m1 := ⟨_, rfl⟩
      obtain ⟨m2, hm2⟩ : ∃ m2, 4 * k + 2 = m2 := ⟨_, rfl⟩
      obtain ⟨m3, hm3⟩ : ∃ m3, 4 * k + 3 = m3 := ⟨_, rfl⟩
      rw [hm3, hm2, hm1, hm0] at Hnx
      have Hn := Lib.hid Hnx
      have b0 : (m0 : Int) < 32 := by omega
      have b1 : (m1 : Int) < 32 := by omega
      have b2 : (m2 : Int) < 32 := by omega
      have b3 : (m3 : Int) < 32 := by omega
      have e0 : IntKind.i64.wrap (4 * (k : Int)) = (m0 : Int) := by rw [IntKind.wrap_i64]; omega
      have e1 : IntKind.i64.wrap ((m0 : Int) + 1) = (m1 : Int) := by rw [IntKind.wrap_i64]; omega
      have e2 : IntKind.i64.wrap ((m0 : Int) + 2) = (m2 : Int) := by rw [IntKind.wrap_i64]; omega
      have e3 : IntKind.i64.wrap ((m0 : Int) + 3) = (m3 : Int) := by rw [IntKind.wrap_i64]; omega
      have q0 : IntKind.u8.wrap ((x.toNat : Int) / 16777216) = ((wbyte x 0).toNat : Int) := byte_at x 16777216 0 rfl
      have q1 : IntKind.u8.wrap ((x.toNat : Int) / 65536) = ((wbyte x 1).toNat : Int) := byte_at x 65536 1 rfl
      have q2 : IntKind.u8.wrap ((x.toNat : Int) / 256) = ((wbyte x 2).toNat : Int) := byte_at x 256 2 rfl
      have q3 : IntKind.u8.wrap (x.toNat : Int) = ((wbyte x 3).toNat : Int) := by
        have := byte_at x 1 3 rfl
        simpa using this
      clear hm0 hm1 hm2 hm3 Hnx hx
      go_wp2_with (first
        | (refine wpList_store_di rfl (.tmp 19) (.tmp 18) rfl Tryd.underlying5 i1B rfl rfl HI.out (by omega) ?_
           intro w1 h1
           have HI1 := Lib.hid h1
           clear h1)
        | (refine wpList_store_di rfl (.tmp 26) (.tmp 25) rfl Tryd.underlying5 i1B rfl rfl HI1.out (by omega) ?_
           intro w2 h2
           have HI2 := Lib.hid h2
           clear h2)
        | (refine wpList_store_di rfl (.tmp 33) (.tmp 32) rfl Tryd.underlying5 i1B rfl rfl HI2.out (by omega) ?_
           intro w3 h3
           have HI3 := Lib.hid h3
           clear h3)
        | (refine wpList_store_di rfl (.tmp 39) (.tmp 38) rfl Tryd.underlying5 i1B rfl rfl HI3.out (by omega) ?_
           intro w4 h4
           have HI4 := Lib.hid h4
           clear h4))
      go_roundw
      case rel =>
        refine ⟨k + 1, by omega, by go_num, ?_⟩
        show DiIn _ _ _
        rw [← Hn.out]
        exact HI4.out
      case measure => simp [intOf]; omega
    · obtain rfl : k = 8 := by omega
      rw [show ((8 : Nat) : Int) = 8 from rfl]
      obtain ⟨E, hE⟩ : ∃ E, E = arr (digest v) := ⟨_, rfl⟩
      have h1 := HI.out.1
      rw [dout_top, show (bvs (digest v)).toArray = E from hE.symm] at h1
      obtain ⟨Z, h2, hZ⟩ := HI.out.2.1
      have H1 := Lib.hid h1
      have H2 := Lib.hid h2
      have HZ := Lib.hid hZ
      have H4 := Lib.hid HI.out.2.2.1
      have hEs : E.size = 32 := by rw [hE, arr_size, digest_len]
      have Hi := Lib.hid (show (Tryd.prog.info? 26).map (·.size) = some E.size by rw [hEs]; exact infoA)
      have Hsz := Lib.hid hEs
      have Hone := Lib.hid (show E.all (·.oneCell') = true by rw [hE]; exact arr_one _)
      have HE := Lib.hid hE
      clear hE hEs h1 h2 hZ HI hlt hk
      go_wp2_with (first
        | (refine wpList_load_row rfl 26 (.tmp 3) rfl _ rfl H1.out u32B rfl Hi.out ?_)
        | (refine wpList_store_row rfl 26 (.tmp 2) (.tmp 41) rfl rfl rfl H2.out Hi.out (by rw [HZ.out, Hsz.out]) Hone.out ?_))
      refine ret_row rfl _ rfl (setRow_at H2.out) u32B rfl Hi.out ⟨by rw [HE.out], ?_⟩
      exact Below.setRow' H4.out (by omega) _
end Go.Proofs.YtoaogcchaafikaaDoor.S3
