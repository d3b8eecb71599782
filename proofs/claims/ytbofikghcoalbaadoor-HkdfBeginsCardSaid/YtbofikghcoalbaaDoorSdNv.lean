/-
  Contract of the program's nextValue: the value behind a block, where the table of constants holds what its text says.
-/
import Derived.Test.YtbofikghcoalbaaDoorSdWo
namespace Go.Proofs.YtbofikghcoalbaaDoor.S4
open Go.RowKit
set_option linter.unusedVariables false
set_option linter.unusedSimpArgs false

/-- The program's table of constants. -/
def Kt (w : World) : Prop := ∀ j, j < 80 → w.cell? ⟨1, j, none⟩ = some (.int .u64 ((K.getD j 0).toNat : Int))
theorem Kt.grow {w w' : World} (h : Kt w) (hg : Grown w w') : Kt w' := fun j hj => cell_at (h j hj) w' hg
theorem idxW {ws : List UInt64} {n : Nat} {t : TypeId} (hu : Tryd.prog.underlying t = some (.array n 44)) (hn : ws.length = n) (i : Nat) (hi : i < n) (w : World) :
    (Instr.index t (.agg (wvs ws).toArray) (.int .i64 (i : Int))).run Tryd.prog w = .ok (.int .u64 ((ws.getD i 0).toNat : Int)) w := by
  obtain ⟨i0, hi0, hz0, hz1, hz2⟩ := info_parts infoW
  simp [Instr.index, asIntOf, run_underlying hu, part, isAgg, run_underlying Tryd.underlying44, sizeOf, typeInfo, hi0, hz1, wvs, wv, hi, hn]
/-- Where nextValue stands: its value's block holds vs. -/
def NvIn (w wr : World) (vs : List UInt64) : Prop :=
  wr.heap[w.heap.size]? = some (.cells (wvs vs).toArray 49 (0, 0)) ∧ (∃ z, wr.heap[w.heap.size + 2]? = some (.cells z 49 (0, 0)) ∧ z.size = 8) ∧ Below w.heap.size w wr ∧ Kt wr
theorem NvIn.grow {w wr wr' : World} {vs : List UInt64} (h : NvIn w wr vs) (hg : Grown wr wr') : NvIn w wr' vs := by
  obtain ⟨h1, ⟨z, h2, h3⟩, h4, h5⟩ := h
  exact ⟨(hg.block _ (lt_of_heap h1)).trans h1, ⟨z, (hg.block _ (lt_of_heap h2)).trans h2, h3⟩, h4.trans (hg.mono h4.size), h5.grow hg⟩
theorem grown_drew (w : World) : Grown w w.drew := ⟨rfl, rfl, rfl, Nat.le_refl _, fun _ _ => rfl⟩
theorem NvIn.word {w wr : World} {vs : List UInt64} (h : NvIn w wr vs) (j : Nat) (hj : j < vs.length) : wr.cell? ⟨w.heap.size, j, none⟩ = some (.int .u64 ((vs.getD j 0).toNat : Int)) := by
  rw [cell_of_row wr _ j _ _ _ h.1]
  simp [wvs, wv, hj]
theorem NvIn.free {w wr : World} {vs : List UInt64} (h : NvIn w wr vs) (i : Nat) : wr.frozen? ⟨w.heap.size, i, none⟩ = false := frozen_of_row wr _ i _ _ h.1
theorem NvIn.put {w wr : World} {vs us : List UInt64} (h : NvIn w wr vs) (hw : 1 < w.heap.size) (j : Nat) (x : UInt64) (hu : vs.set j x = us) : NvIn w (wr.setCell ⟨w.heap.size, j, none⟩ (.int .u64 (x.toNat : Int))) us := by
  obtain ⟨h1, ⟨z, h2, h3⟩, h4, h5⟩ := h
  refine ⟨?_, ⟨z, (Below.heap_setCell wr _ _ _ (by show w.heap.size + 2 ≠ w.heap.size; omega)).trans h2, h3⟩, h4.setCell (by show w.heap.size ≤ w.heap.size; omega) _, fun i hi => ?_⟩
  · have := heap_setCell_same wr w.heap.size j _ _ (.int .u64 (x.toNat : Int)) h1
    rw [this, ← hu]
    congr 2
    simp only [List.setIfInBounds_toArray, wvs]
    congr 1
    rw [show Value.int .u64 (x.toNat : Int) = wv x from rfl, ← List.map_set]
  · rw [World.cell?_setCell_other _ _ _ _ (by intro e; simp only [Addr.mk.injEq] at e; omega)]
    exact h5 i hi
/-- The first k of eight words are sums. -/
def mid (s r : St) (k : Nat) : List UInt64 := (plus s r).l.take k ++ s.l.drop k
theorem mid_len (s r : St) (k : Nat) : (mid s r k).length = 8 := by simp [mid, plus, St.l]; omega
theorem mid_next (s r : St) (k : Nat) (hk : k < 8) : (mid s r k).set k (wp (s.l.getD k 0) (r.l.getD k 0)) = mid s r (k + 1) := by
  match k, hk with
  | 0, _ | 1, _ | 2, _ | 3, _ | 4, _ | 5, _ | 6, _ | 7, _ => rfl
theorem mid_at (s r : St) (k : Nat) (hk : k < 8) : (mid s r k).getD k 0 = s.l.getD k 0 := by
  match k, hk with
  | 0, _ | 1, _ | 2, _ | 3, _ | 4, _ | 5, _ | 6, _ | 7, _ => rfl
theorem mid_top (s r : St) : mid s r 8 = (plus s r).l := rfl
end Go.Proofs.YtbofikghcoalbaaDoor.S4
