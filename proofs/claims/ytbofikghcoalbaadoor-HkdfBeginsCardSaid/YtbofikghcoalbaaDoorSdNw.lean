/-
  Contract of the program's nextValue: the walk.
-/
import Derived.Test.YtbofikghcoalbaaDoorSdNv
namespace Go.Proofs.YtbofikghcoalbaaDoor.S4
open Go.RowKit
set_option linter.unusedVariables false
set_option linter.unusedSimpArgs false

theorem NvIn.start {w W : World} {V C Z : Array Value} {vs : List UInt64} (hk : Kt w) (hV : V = (wvs vs).toArray) (hZ : Z.size = 8) (hW : Grown (((w.alloc (.cells V 49)).alloc (.cells C 51)).alloc (.cells Z 49)) W) : NvIn w W vs := by
  subst hV
  refine NvIn.grow ⟨?_, ⟨Z, ?_, hZ⟩, (((alloc_below w _).alloc (by simp) _).alloc (by simp; omega) _), ?_⟩ hW
  · rw [Below.heap_alloc _ _ _ (by simp; omega), Below.heap_alloc _ _ _ (by simp), heap_alloc_new]
  · have := heap_alloc_new ((w.alloc (.cells (wvs vs).toArray 49)).alloc (.cells C 51)) (.cells Z 49)
    rwa [show ((w.alloc (.cells (wvs vs).toArray 49)).alloc (.cells C 51)).heap.size = w.heap.size + 2 by simp] at this
  · exact hk.grow (Grown.trans (Grown.trans (alloc_below w _) (alloc_below _ _)) (alloc_below _ _))

set_option maxHeartbeats 4000000 in
set_option maxRecDepth 100000 in
theorem nv_any (s : St) (l : List UInt8) (w : World) (hl : l.length = 128) (hk : Kt w) :
    Calls Tryd.prog 34 #[.agg (wvs s.l).toArray, .agg (bvs l).toArray] w fun e w' => e = .returned (.agg (wvs (blk s l).l).toArray) ∧ Grown w w' := by
  have Hl := Lib.hid hl
  have Hk := Lib.hid hk
  have hw0 : 1 < w.heap.size := World.block_lt_of_cell? w _ (hk 0 (by omega))
  clear hl hk
  obtain ⟨C, hC⟩ : ∃ C, C = (bvs l).toArray := ⟨_, rfl⟩
  obtain ⟨V, hV⟩ : ∃ V, V = (wvs s.l).toArray := ⟨_, rfl⟩
  rw [← hC, ← hV]
  have HC := Lib.hid hC
  have HV := Lib.hid hV
  have HiC := Lib.hid (show (Tryd.prog.info? 51).map (·.size) = some C.size by rw [hC, show (bvs l).toArray.size = 128 by simp [bvs, Hl.out]]; exact i128B)
  clear hC hV
  go_enter Tryd.func34, Tryd.ntmps34
  go_wp2_with (first
    | (refine wpList_load_row rfl 51 (.tmp 3) rfl (g := w.heap.size + 1) (cs := C) (t' := 51) (fr := (0, 0)) _ rfl (by rw [Below.heap_alloc _ _ _ (by simp)]; have := heap_alloc_new (w.alloc (.cells V 49)) (.cells C 51); rwa [show (w.alloc (.cells V 49)).heap.size = w.heap.size + 1 by simp] at this) u128B rfl HiC.out ?_))
  rw [HC.out]
  refine (words_any l _ Hl.out).mono ?_
  rintro e w4 ⟨rfl, hg4⟩
  have HN := Lib.hid (NvIn.start (C := C) (Z := #[.int .u64 0, .int .u64 0, .int .u64 0, .int .u64 0, .int .u64 0, .int .u64 0, .int .u64 0, .int .u64 0]) Hk.out HV.out rfl (by rw [← HC.out] at hg4; exact hg4))
  clear hg4
  obtain ⟨D, hD⟩ : ∃ D, D = (wvs (wl l 80)).toArray := ⟨_, rfl⟩
  rw [← hD]
  have hDs : D.size = 80 := by rw [hD]; simp [wvs, wl_len]
  have Hi := Lib.hid (show (Tryd.prog.info? 69).map (·.size) = some D.size by rw [hDs]; exact i80W)
  have Hsz := Lib.hid hDs
  have Hone := Lib.hid (show D.all (·.oneCell') = true by rw [hD]; exact all_oneCell_toArray (wvs_one _))
  have HD := Lib.hid hD
  clear hD hDs
  obtain ⟨Z, hZ⟩ : ∃ Z, Z = (wvs (List.replicate 80 0)).toArray := ⟨_, rfl⟩
  have hz : ∀ W : World, (zeroValue 69).run Tryd.prog W = .ok (.agg Z) W := fun W => by rw [hZ]; exact zero_80 W
  have HZs := Lib.hid (show Z.size = 80 by rw [hZ]; simp [wvs])
  clear hZ
  go_wp2_with (first
    | (refine wpList_store_last rfl 69 (.tmp 5) (.tmp 21) rfl rfl rfl Hi.out (by rw [Hsz.out, HZs.out]) Hone.out ?_))
  clear hz HZs
  have HN5 := Lib.hid (HN.out.grow (alloc_below w4 (.cells D 69)))
  have H5 := Lib.hid (heap_alloc_new w4 (.cells D 69))
  generalize hw5 : w4.alloc (.cells D 69) = w5 at *
  clear hw5 HN
  have c0 : w5.cell? ⟨w.heap.size, 0, none⟩ = some (.int .u64 (s.a.toNat : Int)) := HN5.out.word 0 (by simp [St.l])
  have c1 : w5.cell? ⟨w.heap.size, 1, none⟩ = some (.int .u64 (s.b.toNat : Int)) := HN5.out.word 1 (by simp [St.l])
  have c2 : w5.cell? ⟨w.heap.size, 2, none⟩ = some (.int .u64 (s.c.toNat : Int)) := HN5.out.word 2 (by simp [St.l])
  have c3 : w5.cell? ⟨w.heap.size, 3, none⟩ = some (.int .u64 (s.d.toNat : Int)) := HN5.out.word 3 (by simp [St.l])
  go_still (by kernel_rfl)
  change Exit.then _ _ _ _ w5.drew
  have HN6 := Lib.hid (HN5.out.grow (grown_drew w5))
  have H6 := Lib.hid (show w5.drew.heap[w4.heap.size]? = some (.cells D 69 (0, 0)) from H5.out)
  clear c0 c1 c2 c3
  generalize w5.drew = w6 at *
  clear HN5 H5
  go_wp2
  have c4 : w6.cell? ⟨w.heap.size, 4, none⟩ = some (.int .u64 (s.e.toNat : Int)) := HN6.out.word 4 (by simp [St.l])
  have c5 : w6.cell? ⟨w.heap.size, 5, none⟩ = some (.int .u64 (s.f.toNat : Int)) := HN6.out.word 5 (by simp [St.l])
  have c6 : w6.cell? ⟨w.heap.size, 6, none⟩ = some (.int .u64 (s.g.toNat : Int)) := HN6.out.word 6 (by simp [St.l])
  have c7 : w6.cell? ⟨w.heap.size, 7, none⟩ = some (.int .u64 (s.h.toNat : Int)) := HN6.out.word 7 (by simp [St.l])
  go_still (by kernel_rfl)
  change Exit.then _ _ _ _ w6.drew
  have HN7 := Lib.hid (HN6.out.grow (grown_drew w6))
  have H7 := Lib.hid (show w6.drew.heap[w4.heap.size]? = some (.cells D 69 (0, 0)) from H6.out)
  clear c4 c5 c6 c7
  generalize w6.drew = w7 at *
  clear HN6 H6 w6 w5
  go_wp2_with (first
    | (refine wpList_load_row rfl 69 (.tmp 5) rfl _ rfl H7.out u80W rfl Hi.out ?_))
  go_loopw [6, 7, 8, 9, 10, 11, 12, 13, 39] (fun a b c d e f g h i wr => ∃ (t : Nat) (r : St), t ≤ 80 ∧ i = .int .i64 (t : Int) ∧ a = .int .u64 (r.a.toNat : Int) ∧ b = .int .u64 (r.b.toNat : Int) ∧ c = .int .u64 (r.c.toNat : Int) ∧ d = .int .u64 (r.d.toNat : Int) ∧ e = .int .u64 (r.e.toNat : Int) ∧ f = .int .u64 (r.f.toNat : Int) ∧ g = .int .u64 (r.g.toNat : Int) ∧ h = .int .u64 (r.h.toNat : Int) ∧ Hid (r = rnds (wl l 80) s t) ∧ Hid (NvIn w wr s.l)) (fun _ _ _ _ _ _ _ _ i _ => 80 - (intOf i).toNat)
  case atStart => exact ⟨0, s, by omega, rfl, rfl, rfl, rfl, rfl, rfl, rfl, rfl, rfl, rfl, HN7.out⟩
  case round =>
    clear HN7 H7
    obtain ⟨t, r, ht, rfl, rfl, rfl, rfl, rfl, rfl, rfl, rfl, rfl, Hr, HI⟩ := hrel
    by_cases hlt : t < 80
    · obtain ⟨k, hk⟩ : ∃ k, K.getD t 0 = k := ⟨_, rfl⟩
      obtain ⟨x, hx⟩ : ∃ x, (wl l 80).getD t 0 = x := ⟨_, rfl⟩
      have hck := HI.out.2.2.2 t hlt
      rw [hk] at hck
      have hix : ∀ W : World, (Instr.index 69 (.agg D) (.int .i64 (t : Int))).run Tryd.prog W = .ok (.int .u64 (x.toNat : Int)) W := fun W => by rw [HD.out, ← hx]; exact idxW u80W (wl_len l 80) t hlt W
      have Hr2 := Lib.hid (show rnd r k x = rnds (wl l 80) s (t + 1) by rw [rnds, hk, hx, Hr.out])
      clear hk hx
      go_wp2
      obtain ⟨z1, hz1⟩ : ∃ z, S1 r.e = z := ⟨_, rfl⟩
      obtain ⟨zc, hzc⟩ : ∃ z, wx (wa r.e r.f) (wa (wn r.e) r.g) = z := ⟨_, rfl⟩
      obtain ⟨T1, hT1⟩ : ∃ z, wp (wp (wp (wp r.h z1) zc) k) x = z := ⟨_, rfl⟩
      obtain ⟨z0, hz0⟩ : ∃ z, S0 r.a = z := ⟨_, rfl⟩
      obtain ⟨zm, hzm⟩ : ∃ z, wx (wx (wa r.a r.b) (wa r.a r.c)) (wa r.b r.c) = z := ⟨_, rfl⟩
      obtain ⟨T2, hT2⟩ : ∃ z, wp z0 zm = z := ⟨_, rfl⟩
      obtain ⟨na, hna⟩ : ∃ z, wp T1 T2 = z := ⟨_, rfl⟩
      obtain ⟨ne, hne⟩ : ∃ z, wp r.d T1 = z := ⟨_, rfl⟩
      have Hst := Lib.hid (show (⟨na, r.a, r.b, r.c, ne, r.e, r.f, r.g⟩ : St) = rnds (wl l 80) s (t + 1) by rw [← Hr2.out, ← hna, ← hne, ← hT2, ← hzm, ← hz0, ← hT1, ← hzc, ← hz1]; rfl)
      have q1 : IntKind.u64.wrap ((r.h.toNat : Int) + (z1.toNat : Int)) = ((wp r.h z1).toNat : Int) := i_addw _ _
      have xx := i_xor
      have xa := i_addw
      have xn := i_and
      have xt := i_notw
      have C1 := Lib.hid (show Calls Tryd.prog 39 #[.int .u64 (r.e.toNat : Int)] wr.drew (fun e w'' => e = .returned (.int .u64 (z1.toNat : Int)) ∧ w'' = wr.drew) from (mixE_any r.e wr.drew).mono fun e w'' h => ⟨by rw [h.1, hz1], h.2.symm⟩)
      refine wp_region_still_lit (by kernel_rfl) (by kernel_rfl) ?_
      repeat (first | still_step | still_call C1.out)
      refine wpStill_nil ?_
      change Exit.then _ _ _ _ wr.drew
      clear C1 hck hix
      have HI2 := Lib.hid (HI.out.grow (grown_drew wr))
      generalize wr.drew = w8 at *
      clear HI
      go_wp2_with fail
      refine (mixA_any r.a _).mono ?_
      rintro e w9 ⟨rfl, rfl⟩
      rw [hz0]
      go_wp2
      go_roundw
      case rel => exact ⟨t + 1, ⟨na, r.a, r.b, r.c, ne, r.e, r.f, r.g⟩, by omega, by go_num, rfl, rfl, rfl, rfl, rfl, rfl, rfl, rfl, Hst.out, HI2.out⟩
      case measure => simp [intOf]; omega
    · obtain rfl : t = 80 := by omega
      rw [show ((80 : Nat) : Int) = 80 from rfl]
      have Hp := Lib.hid (show plus s r = blk s l by rw [Hr.out]; rfl)
      clear Hr hlt ht
      go_wp2
      go_loopw [98] (fun i wr => ∃ (t : Nat), t ≤ 8 ∧ i = .int .i64 (t : Int) ∧ Hid (NvIn w wr (mid s r t))) (fun i _ => 8 - (intOf i).toNat)
      case atStart => exact ⟨0, by omega, rfl, HI.out⟩
      case round =>
        clear HI
        obtain ⟨t, ht, rfl, HI⟩ := hrel
        by_cases hlt : t < 8
        · have hix : ∀ W : World, (Instr.index 49 (.agg #[.int .u64 (r.a.toNat : Int), .int .u64 (r.b.toNat : Int), .int .u64 (r.c.toNat : Int), .int .u64 (r.d.toNat : Int), .int .u64 (r.e.toNat : Int), .int .u64 (r.f.toNat : Int), .int .u64 (r.g.toNat : Int), .int .u64 (r.h.toNat : Int)]) (.int .i64 (t : Int))).run Tryd.prog W = .ok (.int .u64 ((r.l.getD t 0).toNat : Int)) W := fun W => idxW (ws := r.l) u8W rfl t hlt W
          have hc := HI.out.word t (by rw [mid_len]; exact hlt)
          rw [mid_at s r t hlt] at hc
          have Hm := Lib.hid (mid_next s r t hlt)
          have hfr := HI.out.free t
          generalize s.l.getD t 0 = x at *
          generalize r.l.getD t 0 = y at *
          have xa := i_addw x y
          have ht8 : (t : Int) < 8 := by omega
          go_wp2
          go_roundw
          case rel => exact ⟨t + 1, by omega, by go_num, HI.out.put hw0 t _ Hm.out⟩
          case measure => simp [intOf]; omega
        · obtain rfl : t = 8 := by omega
          rw [show ((8 : Nat) : Int) = 8 from rfl]
          obtain ⟨E, hE⟩ : ∃ E, E = (wvs (blk s l).l).toArray := ⟨_, rfl⟩
          have h1 := HI.out.1
          rw [mid_top, Hp.out, ← hE] at h1
          obtain ⟨Z, h2, hZ⟩ := HI.out.2.1
          have hEs : E.size = 8 := by rw [hE]; rfl
          have H1 := Lib.hid h1
          have H2 := Lib.hid h2
          have HZ := Lib.hid hZ
          have H4 := Lib.hid HI.out.2.2.1
          have Hi8 := Lib.hid (show (Tryd.prog.info? 49).map (·.size) = some E.size by rw [hEs]; exact i8W)
          have Hsz8 := Lib.hid hEs
          have Hone8 := Lib.hid (show E.all (·.oneCell') = true by rw [hE]; exact all_oneCell_toArray (wvs_one _))
          have HE := Lib.hid hE
          clear hE hEs h1 h2 hZ HI hlt ht
          go_wp2_with (first
            | (refine wpList_load_row rfl 49 (.tmp 2) rfl _ rfl H1.out u8W rfl Hi8.out ?_)
            | (refine wpList_store_row rfl 49 (.tmp 4) (.tmp 109) rfl rfl rfl H2.out Hi8.out (by rw [HZ.out, Hsz8.out]) Hone8.out ?_))
          refine ret_row rfl _ rfl (setRow_at H2.out) u8W rfl Hi8.out ⟨by rw [HE.out], ?_⟩
          exact Below.setRow' H4.out (by omega) _
end Go.Proofs.YtbofikghcoalbaaDoor.S4
