/-
  Blocks of bytes of any type; contracts of the program's rotateRows and rotateRowsBack.
-/
import Derived.Test.YtgfmdjagggnfbaaPdA
import Derived.Test.YtgfmdjagggnfbaaAeE
namespace Go.Proofs.Ytgfmdjagggnfbaa.S7
open Go.RowKit
set_option linter.unusedVariables false
set_option linter.unusedSimpArgs false

/-- Block g is the bytes l, as a block of type t. -/
def Bk (w : World) (g : Nat) (t : TypeId) (l : List UInt8) : Prop := w.heap[g]? = some (.cells (bvs l).toArray t (0, 0))
section
variable {w w' : World} {g : Nat} {t : TypeId} {l : List UInt8}
theorem Bk.cell (h : Bk w g t l) (i : Nat) (hi : i < l.length) : w.cell? ⟨g, i, none⟩ = some (.int .u8 ((gt l i).toNat : Int)) := by
  rw [cell_of_row w g i _ t (0, 0) h]; simp [bvs, bv, gt, hi]
theorem Bk.free (h : Bk w g t l) (i : Nat) : w.frozen? ⟨g, i, none⟩ = false := frozen_of_row w g i _ t h
theorem Bk.put (h : Bk w g t l) (i : Nat) (x : UInt8) : Bk (w.setCell ⟨g, i, none⟩ (.int .u8 (x.toNat : Int))) g t (l.set i x) := by
  unfold Bk at *
  rw [heap_setCell_same w g i _ t _ h]
  simp [bvs, bv, List.map_set]
theorem Bk.far (h : Bk w g t l) {p : Addr} (hp : g ≠ p.block) (u : Value) : Bk (w.setCell p u) g t l := (Below.heap_setCell w p u g hp).trans h
theorem Bk.lt (h : Bk w g t l) : g < w.heap.size := lt_of_heap h
theorem Bk.alloc (h : Bk w g t l) (o : Obj) : Bk (w.alloc o) g t l := (Below.heap_alloc w o g h.lt).trans h
theorem Bk.drew (h : Bk w g t l) : Bk w.drew g t l := h
theorem Bk.grow (h : Bk w g t l) (hb : Grown w w') : Bk w' g t l := (hb.block g h.lt).trans h
theorem Bk.below {B : Nat} (h : Bk w g t l) (hb : Below B w w') (hg : g < B) : Bk w' g t l := (hb.block g hg).trans h
theorem Bk.new (w : World) (t : TypeId) (l : List UInt8) : Bk (w.alloc (.cells (bvs l).toArray t)) w.heap.size t l := heap_alloc_new w _
end
/-- A list of 16 bytes is just its bytes. -/
theorem sixteen (l : List UInt8) (h : l.length = 16) : ∃ b0 b1 b2 b3 b4 b5 b6 b7 b8 b9 b10 b11 b12 b13 b14 b15, l = [b0, b1, b2, b3, b4, b5, b6, b7, b8, b9, b10, b11, b12, b13, b14, b15] := by
  match l, h with
  | [b0, b1, b2, b3, b4, b5, b6, b7, b8, b9, b10, b11, b12, b13, b14, b15], _ => exact ⟨_, _, _, _, _, _, _, _, _, _, _, _, _, _, _, _, rfl⟩
def rotS (x : List UInt8) : List UInt8 := mk fun i => gt x (shf i)
def rotbS (x : List UInt8) : List UInt8 := mk fun i => gt x (ush i)
def repS (T : List UInt8) (x : List UInt8) : List UInt8 := mk fun i => gt T (gt x i).toNat

theorem two_new (w : World) (o1 o2 : Obj) : ((w.alloc o1).alloc o2).heap[w.heap.size + 1]? = some o2 := by
  rw [show w.heap.size + 1 = (w.alloc o1).heap.size by simp]
  exact heap_alloc_new _ _
theorem first_new (w : World) (o1 o2 : Obj) : ((w.alloc o1).alloc o2).heap[w.heap.size]? = some o1 := (Below.heap_alloc _ _ _ (by simp)).trans (heap_alloc_new w _)
theorem two_grown (w : World) (o1 o2 : Obj) : Grown w ((w.alloc o1).alloc o2) := Grown.trans (alloc_below w _) (alloc_below _ _)
theorem rotS_at (b0 b1 b2 b3 b4 b5 b6 b7 b8 b9 b10 b11 b12 b13 b14 b15 : UInt8) : rotS [b0, b1, b2, b3, b4, b5, b6, b7, b8, b9, b10, b11, b12, b13, b14, b15] = [b0, b5, b10, b15, b4, b9, b14, b3, b8, b13, b2, b7, b12, b1, b6, b11] := rfl
theorem rotbS_at (b0 b1 b2 b3 b4 b5 b6 b7 b8 b9 b10 b11 b12 b13 b14 b15 : UInt8) : rotbS [b0, b1, b2, b3, b4, b5, b6, b7, b8, b9, b10, b11, b12, b13, b14, b15] = [b0, b13, b10, b7, b4, b1, b14, b11, b8, b5, b2, b15, b12, b9, b6, b3] := rfl

set_option maxHeartbeats 4000000 in
set_option maxRecDepth 20000 in
theorem rows_any (b : List UInt8) (hb : b.length = 16) (w : World) : Calls Try.prog 20 #[.agg (bvs b).toArray] w fun e w' => e = .returned (.agg (bvs (rotS b)).toArray) ∧ Grown w w' := by
  obtain ⟨b0, b1, b2, b3, b4, b5, b6, b7, b8, b9, b10, b11, b12, b13, b14, b15, rfl⟩ := sixteen b hb
  clear hb
  rw [rotS_at]
  simp only [bvs, bv, List.map_cons, List.map_nil]
  go_enter Try.func20, Try.ntmps20
  go_wp2
  exact ret_row rfl _ rfl (two_new w _ _) u16B rfl i16B ⟨rfl, two_grown w _ _⟩
set_option maxHeartbeats 4000000 in
set_option maxRecDepth 20000 in
theorem rowsBack_any (b : List UInt8) (hb : b.length = 16) (w : World) : Calls Try.prog 52 #[.agg (bvs b).toArray] w fun e w' => e = .returned (.agg (bvs (rotbS b)).toArray) ∧ Grown w w' := by
  obtain ⟨b0, b1, b2, b3, b4, b5, b6, b7, b8, b9, b10, b11, b12, b13, b14, b15, rfl⟩ := sixteen b hb
  clear hb
  rw [rotbS_at]
  simp only [bvs, bv, List.map_cons, List.map_nil]
  go_enter Try.func52, Try.ntmps52
  go_wp2
  exact ret_row rfl _ rfl (two_new w _ _) u16B rfl i16B ⟨rfl, two_grown w _ _⟩
end Go.Proofs.Ytgfmdjagggnfbaa.S7
