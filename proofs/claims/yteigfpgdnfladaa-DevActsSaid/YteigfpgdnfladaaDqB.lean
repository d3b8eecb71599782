/-
  Contracts of the program's device: padded, contents.
-/
import Derived.Test.YteigfpgdnfladaaDqA
import Derived.Laws.CopyOwn
namespace Go.Proofs.Yteigfpgdnfladaa.S13
open Cf
open Go.RowKit
set_option linter.unusedVariables false
set_option linter.unusedSimpArgs false

/-- Block g is a sector of these bytes. -/
def Bk (w : World) (g : Nat) (l : List UInt8) : Prop := w.heap[g]? = some (.cells (bvs l).toArray 65 (0, 0))
theorem u512 : Try.prog.underlying 65 = some (.array 512 5) := Try.underlying65
theorem i512 : (Try.prog.info? 65).map (·.size) = some 512 := by kernel_rfl
theorem inf512 : (Try.prog.info? 65).map (fun i => (i.zero, i.size, i.bytes)) = some (some (.agg (bvs z512).toArray), 512, 512) := by kernel_rfl
theorem zero512 (w : World) : (zeroValue 65).run Try.prog w = .ok (.agg (bvs z512).toArray) w := by
  obtain ⟨i0, hi, hz0, hz1, hz2⟩ := info_parts inf512
  simp [zeroValue, typeInfo, hi, hz0]
theorem size512 {l : List UInt8} (h : l.length = 512) : (Try.prog.info? 65).map (·.size) = some (bvs l).toArray.size := by rw [show (bvs l).toArray.size = 512 by simp [bvs, h]]; exact i512
theorem size512l {l : List UInt8} (h : l.length = 512) : (Try.prog.info? 65).map (·.size) = some (bvs l).length := by rw [bvs_length, h]; exact i512
theorem one512 (l : List UInt8) : (bvs l).toArray.all (·.oneCell') = true := all_oneCell_toArray (bvs_one l)
theorem cutN {P : Program} {t e : TypeId} {n : Nat} (hu : P.underlying t = some (.array n e)) (h5 : (P.info? e).map (·.size) = some 1) (W : World) (g o : Nat) : (Instr.sliceAt t (.pointer (some ⟨g, o, none⟩)) none none none).run P W = .ok (.slice (some ⟨g, o, none⟩) n n) W := by
  cases hq : P.info? e with
  | none => simp [hq] at h5
  | some i =>
    have hs : i.size = 1 := by simpa [hq] using h5
    simp [Instr.sliceAt, Instr.sureAddr, Instr.sliceBounds, run_underlying hu, sizeOf, typeInfo, hq, hs]
    exact fun _ => Addr.add_mid g o 0
theorem cut512 (W : World) (g o : Nat) : (Instr.sliceAt 65 (.pointer (some ⟨g, o, none⟩)) none none none).run Try.prog W = .ok (.slice (some ⟨g, o, none⟩) 512 512) W := cutN u512 (by kernel_rfl) W g o
theorem setRow_at {w : World} {g : Nat} {old cs : Array Value} {t : TypeId} {f : Nat × Nat} (h : w.heap[g]? = some (.cells old t f)) : (w.setRow g cs).heap[g]? = some (.cells cs t f) := setRow_heap w g old cs t f h
theorem Below.setRow' {B : Nat} {a w : World} (h : Below B a w) {g : Nat} (hg : B ≤ g) (cs : Array Value) : Below B a (w.setRow g cs) :=
  ⟨h.os, h.tape, h.output, Nat.le_trans h.size (by simp [World.setRow]), fun k hk => (setRow_other w g k cs (by omega)).trans (h.block k hk)⟩
theorem newTwo (w : World) (o1 o2 : Obj) : ((w.alloc o1).alloc o2).heap[w.heap.size + 1]? = some o2 := by
  rw [show w.heap.size + 1 = (w.alloc o1).heap.size by simp]
  exact heap_alloc_new _ _
theorem newOne (w : World) (o1 o2 : Obj) : ((w.alloc o1).alloc o2).heap[w.heap.size]? = some o1 := (Below.heap_alloc _ _ _ (by simp)).trans (heap_alloc_new w _)
theorem twoGrown (w : World) (o1 o2 : Obj) : Grown w ((w.alloc o1).alloc o2) := Grown.trans (alloc_below w _) (alloc_below _ _)
theorem padSplice (b : List UInt8) (h : b.length ≤ 512) : splice (bvs z512) 0 (bvs b) = bvs (pad512 b) := by
  obtain ⟨m, hm⟩ : ∃ m, m = 512 := ⟨_, rfl⟩
  unfold splice pad512 z512
  rw [← hm]
  rw [List.take_zero, List.nil_append, Nat.zero_add, bvs_length]
  simp [bvs]
theorem rdSrc {w : World} {B : Nat} {A : Option Addr} {l : List UInt8} (h : Rd w B A l) (hp : 0 < (bvs l).length) : ∃ ad, A = some ad ∧ ∀ j v, (bvs l)[j]? = some v → w.cell? (ad.add j) = some v := by
  rcases h with rfl | ⟨b, off, rfl, hb, hc⟩
  · simp [bvs] at hp
  · refine ⟨_, rfl, fun j v hv => ?_⟩
    have hj : j < l.length := by
      have := (List.getElem?_eq_some_iff.1 hv).1
      simpa [bvs] using this
    have h3 := hc j hj
    simp [bvs, hj] at hv
    subst hv
    by_cases h0 : j = 0
    · subst h0; simpa [Addr.add] using h3
    · simpa [Addr.add, h0] using h3
theorem retSector {W : World} {fn : Func} {p : Tmp} (hr : fn.results = #[.cell p 65]) {R : Ending → World → Prop} {tm : Array Value} {g : Nat} {l : List UInt8} (hp : tm.getD p undef = .pointer (some ⟨g, 0, none⟩)) (hg : Bk W g l) (hl : l.length = 512)
    (h : R (.returned (.agg (bvs l).toArray)) W) : bodyPost Try.prog fn R .ret { tmps := tm, defers := [] } W :=
  bodyPost_ret (v := .agg (bvs l).toArray) (results_cell_row hr tm W g _ _ _ _ hp hg u512 rfl (size512 hl)) rfl h
theorem info8u : (Try.prog.info? 5).map (·.size) = some 1 := by kernel_rfl
theorem Bk.grow {w w' : World} {g : Nat} {l : List UInt8} (h : Bk w g l) (hb : Grown w w') : Bk w' g l := (hb.block g (lt_of_heap h)).trans h
theorem padded_any (w : World) (A : Option Addr) (n c : Nat) (b : List UInt8) (hb : Rd w w.heap.size A b) (hn : b.length = n) (h5 : n ≤ 512) :
    Calls Try.prog 34 #[.slice A n c] w fun e w' => e = .returned (.agg (bvs (pad512 b)).toArray) ∧ Grown w w' := by
  have HB := Lib.hid hb
  have HN := Lib.hid hn
  have HZ := zero512
  have H0 := Lib.hid (newOne w (.cells (bvs z512).toArray 65) (.cells (bvs z512).toArray 65))
  have H1 := Lib.hid (newTwo w (.cells (bvs z512).toArray 65) (.cells (bvs z512).toArray 65))
  have HG := Lib.hid (twoGrown w (.cells (bvs z512).toArray 65) (.cells (bvs z512).toArray 65))
  have HC := fun W => cut512 W (w.heap.size + 1) 0
  clear hb hn
  go_enter Try.func34, Try.ntmps34
  go_wp2_with (first
    | (refine wpList_copy_splice rfl (.tmp 4) (.tmp 5) 31 31 rfl 5 Try.underlying31 info8u _ _ _ _ _ _ rfl rfl (w.heap.size + 1) 0 (bvs z512) 65 H1.out (bvs b) (by rw [bvs_length, HN.out]; exact (Nat.min_eq_left h5).symm) (fun hq => ⟨rfl, rdSrc (HB.out.grow HG.out) hq⟩) (by rw [bvs_length, bvs_length, z512_len, HN.out]; omega) (bvs_one _) (w.heap.size + 1) _ (Below.refl _ _) (Nat.le_refl _) ?_
       intro w2 hw2 hb2
       have P1 := Lib.hid (show Bk w2 (w.heap.size + 1) (pad512 b) by have := hw2.out; rw [padSplice b (by have := HN.out; omega)] at this; exact this)
       have P0 := Lib.hid (show Bk w2 w.heap.size z512 from (hb2.block _ (by omega)).trans H0.out)
       have PG := Lib.hid (show Grown w w2 from Below.trans HG.out (hb2.mono (by omega)))
       have PL := Lib.hid (pad512_len b (by have := HN.out; omega))
       clear hw2 hb2 H0 H1 HG HC)
    | (refine wpList_load_row rfl 65 (.tmp 3) rfl _ rfl _ _ _ _ P1.out u512 rfl (size512 PL.out) ?_)
    | (refine wpList_store_row rfl 65 (.tmp 2) (.tmp 7) rfl _ _ rfl rfl _ _ P0.out (size512 PL.out) (by simp only [List.size_toArray, bvs_length, PL.out, z512_len]) (one512 _) ?_))

  exact retSector rfl rfl (setRow_at P0.out) PL.out ⟨rfl, Below.setRow' PG.out (Nat.le_refl _) _⟩
end Go.Proofs.Yteigfpgdnfladaa.S13
