/-
  Whole arrays, as values, out of and into blocks of their own; a result that lies in a block.
-/
import Derived.Test.YtbofikghcoalbaaDoorSbWd
import Derived.Test.YtbofikghcoalbaaDoorSto
import Derived.Deep.MidRow
import Derived.Deep.WholeRow
namespace Go.Proofs.YtbofikghcoalbaaDoor.S4
open Go.RowKit
set_option linter.unusedVariables false
set_option linter.unusedSimpArgs false

theorem setRow_at {w : World} {g : Nat} {old cs : Array Value} {t : TypeId} {f : Nat × Nat} (h : w.heap[g]? = some (.cells old t f)) : (w.setRow g cs).heap[g]? = some (.cells cs t f) := by
  have hs : g < w.heap.size := lt_of_heap h
  simp only [World.setRow, Array.getElem?_modify, if_pos, h, Option.map_some]
theorem setRow_far {w : World} {g k : Nat} {cs : Array Value} (hk : k ≠ g) : (w.setRow g cs).heap[k]? = w.heap[k]? := by
  simp only [World.setRow, Array.getElem?_modify, if_neg (Ne.symm hk)]
theorem Below.setRow' {B : Nat} {a w : World} (h : Below B a w) {g : Nat} (hg : B ≤ g) (cs : Array Value) : Below B a (w.setRow g cs) :=
  ⟨h.os, h.tape, h.output, by simpa [World.setRow] using h.size, fun k hk => (setRow_far (by omega)).trans (h.block k hk)⟩
section
variable {P : Program} {W : World} {ops : Array Oper} {rest : List Oper} {o : Oper} {a : Act} {Q : Exit → Act → World → Prop}
theorem wpList_load_row (hgd : o.guard = none) (t : TypeId) (x : Operand) (ho : o.op = .load t x) {g : Nat} {cs : Array Value} {t' : TypeId} {fr : Nat × Nat} (d : TypeDesc) (hx : a.eval x = .pointer (some ⟨g, 0, none⟩)) (hg : W.heap[g]? = some (.cells cs t' fr))
    (hu : P.underlying t = some d) (hd : d.isRow = true) (hi : (P.info? t).map (·.size) = some cs.size)
    (h : wpList P ops Q rest (a.put o.dst (.agg cs)) W) : wpList P ops Q (o :: rest) a W := by
  refine wpList_plain hgd fun K hK => ?_
  have hl := run_loadVar_row (P := P) W g t' t cs fr d hg hu (by cases d <;> simp_all) hi
  unfold Oper.wp execOp
  simp only [ho, hx, Instr.loadAt, Instr.sureAddr, Sem.run_bind, Sem.run_pure, Result.andThen_ok, hl]
  exact hK _ _ h
theorem wpList_store_row (hgd : o.guard = none) (t : TypeId) (x y : Operand) (ho : o.op = .store t x y) {g : Nat} {old cs : Array Value} {t' : TypeId} (hx : a.eval x = .pointer (some ⟨g, 0, none⟩)) (hy : a.eval y = .agg cs)
    (hg : W.heap[g]? = some (.cells old t' (0, 0))) (hi : (P.info? t).map (·.size) = some cs.size) (hs : old.size = cs.size) (h1 : cs.all (·.oneCell') = true)
    (h : wpList P ops Q rest (a.put o.dst undef) (W.setRow g cs)) : wpList P ops Q (o :: rest) a W := by
  refine wpList_plain hgd fun K hK => ?_
  have hr := run_storeVar_row (P := P) W g t' t old cs hg hi hs h1
  unfold Oper.wp execOp
  simp only [ho, hx, hy, Instr.storeAt, Instr.sureAddr, Sem.run_bind, Sem.run_pure, Result.andThen_ok, hr]
  exact hK _ _ h
/-- A function's one result lies in a block of its own. -/
theorem ret_row {fn : Func} {p : Tmp} {t : TypeId} (hr : fn.results = #[.cell p t]) {R : Ending → World → Prop} {tm : Array Value} {g : Nat} {cs : Array Value} {t' : TypeId} {fr : Nat × Nat} (d : TypeDesc) (hp : tm.getD p undef = .pointer (some ⟨g, 0, none⟩)) (hg : W.heap[g]? = some (.cells cs t' fr))
    (hu : P.underlying t = some d) (hd : d.isRow = true) (hi : (P.info? t).map (·.size) = some cs.size) (h : R (.returned (.agg cs)) W) : bodyPost P fn R .ret { tmps := tm, defers := [] } W :=
  bodyPost_ret (v := .agg cs) (results_cell_row hr tm W g t' cs fr d hp hg hu (by cases d <;> simp_all) hi) rfl h
end
theorem wvs_one (l : List UInt64) : ∀ u ∈ wvs l, u.oneCell' = true := by
  intro u hu
  simp only [wvs, List.mem_map] at hu
  obtain ⟨x, _, rfl⟩ := hu
  rfl
theorem i128B : (Tryd.prog.info? 51).map (·.size) = some 128 := by kernel_rfl
theorem i80W : (Tryd.prog.info? 69).map (·.size) = some 80 := by kernel_rfl
theorem i8W : (Tryd.prog.info? 49).map (·.size) = some 8 := by kernel_rfl
theorem u128B : Tryd.prog.underlying 51 = some (.array 128 5) := by kernel_rfl
theorem u80W : Tryd.prog.underlying 69 = some (.array 80 44) := by kernel_rfl
theorem u8W : Tryd.prog.underlying 49 = some (.array 8 44) := by kernel_rfl
end Go.Proofs.YtbofikghcoalbaaDoor.S4
