/-
  A whole array stored into a block that was made last, or last but one.
-/
import Derived.Test.YtgfmdjagggnfbaaApp
import Derived.Deep.WholeRow
namespace Go.Proofs.Ytgfmdjagggnfbaa
open Go.RowKit
set_option linter.unusedVariables false

theorem setRow_alloc_old (w : World) (c c' : Array Value) (t : TypeId) (o : Obj) : ((w.alloc (.cells c t)).alloc o).setRow w.heap.size c' = (w.alloc (.cells c' t)).alloc o := by
  simp only [World.setRow, World.alloc]
  congr 1
  apply Array.ext_getElem?
  intro i
  rw [Array.getElem?_modify]
  by_cases h : w.heap.size = i
  · subst h
    simp [Array.getElem?_push]
  · have h' : ¬ i = w.heap.size := fun e => h e.symm
    simp [h, h', Array.getElem?_push]
section
variable {P : Program} {W : World} {ops : Array Oper} {rest : List Oper} {o : Oper} {a : Act} {Q : Exit → Act → World → Prop}
theorem wpList_store_last (hgd : o.guard = none) (t : TypeId) (x y : Operand) (ho : o.op = .store t x y) {c c' : Array Value} (hx : a.eval x = .pointer (some ⟨W.heap.size, 0, none⟩)) (hy : a.eval y = .agg c')
    (hi : (P.info? t).map (·.size) = some c'.size) (hs : c.size = c'.size) (h1 : c'.all (·.oneCell') = true)
    (h : wpList P ops Q rest (a.put o.dst undef) (W.alloc (.cells c' t))) : wpList P ops Q (o :: rest) a (W.alloc (.cells c t)) := by
  refine wpList_plain hgd fun K hK => ?_
  unfold Oper.wp execOp
  simp only [ho, hx, hy, Sem.run_bind, Sem.run_pure, Result.andThen_ok, run_storeAt_new W t c c' hi hs h1]
  exact hK _ _ h
theorem wpList_store_prev (hgd : o.guard = none) (t : TypeId) (x y : Operand) (ho : o.op = .store t x y) {c c' : Array Value} {ob : Obj} (hx : a.eval x = .pointer (some ⟨W.heap.size, 0, none⟩)) (hy : a.eval y = .agg c')
    (hi : (P.info? t).map (·.size) = some c'.size) (hs : c.size = c'.size) (h1 : c'.all (·.oneCell') = true)
    (h : wpList P ops Q rest (a.put o.dst undef) ((W.alloc (.cells c' t)).alloc ob)) : wpList P ops Q (o :: rest) a ((W.alloc (.cells c t)).alloc ob) := by
  refine wpList_plain hgd fun K hK => ?_
  have hg : ((W.alloc (.cells c t)).alloc ob).heap[W.heap.size]? = some (.cells c t (0, 0)) := (Below.heap_alloc _ ob _ (by simp)).trans (heap_alloc_new W _)
  have hr := run_storeVar_row (P := P) _ _ t t c c' hg hi hs h1
  rw [setRow_alloc_old] at hr
  unfold Oper.wp execOp
  simp only [ho, hx, hy, Instr.storeAt, Instr.sureAddr, Sem.run_bind, Sem.run_pure, Result.andThen_ok, hr]
  exact hK _ _ h
end
end Go.Proofs.Ytgfmdjagggnfbaa
