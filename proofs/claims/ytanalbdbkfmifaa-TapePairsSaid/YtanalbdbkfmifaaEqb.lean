/-
  '==' of an array of 32 bytes with itself, as the walk meets it; a load of a whole row in a region that draws its order.
-/
import Derived.Test.YtanalbdbkfmifaaEqa
import Derived.Test.YtanalbdbkfmifaaGrow
import Derived.Laws.Rows
import Derived.Deep.MidRow
namespace Go.Proofs.Ytanalbdbkfmifaa
open Go.RowKit
set_option linter.unusedVariables false
set_option linter.unusedSimpArgs false

theorem eq_arr (l : List UInt8) (t : TypeId) (n : Nat) (hu : Try.prog.underlying t = some (.array n 5)) (hl : l.length = n) (w : World) :
    (binOp .eql t (.agg (bvs l).toArray) (.agg (bvs l).toArray)).run Try.prog w = .ok (.bool true) w := by
  have h : (Op.equal t (.agg (bvs l).toArray) (.agg (bvs l).toArray)).run Try.prog w = .ok true w := eq_self l t n hu hl 9998 w
  simp only [binOp]
  simp [h]
theorem exec_eq_arr (l : List UInt8) (t : TypeId) (n : Nat) (hu : Try.prog.underlying t = some (.array n 5)) (hgt : Try.prog.eqGuardType Try.prog.depth t = false) (hl : l.length = n) {a : Act} {d : Option Tmp} {ty t2 : TypeId} {pos : String} {after : Array Edge} {guard : Option (Nat × Bool)} (x y : Operand)
    (hx : a.eval x = .agg (bvs l).toArray) (hy : a.eval y = .agg (bvs l).toArray) (w : World) : (execOp a.eval ⟨d, .binOp .eql t x y t2, ty, pos, after, guard⟩).run Try.prog w = .ok (.value (.bool true)) w := by
  have h := eq_arr l t n hu hl w
  have hg : (eqGuard .eql t x y (.agg (bvs l).toArray) (.agg (bvs l).toArray)).run Try.prog w = .ok () w := by
    unfold eqGuard
    simp [hgt, run_program]
  unfold execOp
  simp only [hx, hy, Sem.run_bind, hg, Result.andThen_ok, h, Sem.run_pure]
theorem exec_load_row {P : Program} {W : World} {a : Act} {d : Option Tmp} {ty : TypeId} {pos : String} {after : Array Edge} {guard : Option (Nat × Bool)} (t : TypeId) (x : Operand) {g : Nat} {cs : Array Value} {t' : TypeId} {fr : Nat × Nat} (dd : TypeDesc) (hx : a.eval x = .pointer (some ⟨g, 0, none⟩)) (hg : W.heap[g]? = some (.cells cs t' fr))
    (hu : P.underlying t = some dd) (hd : dd.isRow = true) (hi : (P.info? t).map (·.size) = some cs.size) :
    (execOp a.eval ⟨d, .load t x, ty, pos, after, guard⟩).run P W = .ok (.value (.agg cs)) W := by
  have hl := run_loadVar_row (P := P) W g t' t cs fr dd hg hu (by cases dd <;> simp_all) hi
  unfold execOp
  simp only [hx, Instr.loadAt, Instr.sureAddr, Sem.run_bind, Sem.run_pure, Result.andThen_ok, hl]
end Go.Proofs.Ytanalbdbkfmifaa
