/-
  An array of 32 bytes is equal to itself. '==' of an array of 32 bytes with itself, as the walk meets it; a load of a whole row in a region that draws its order.
-/
import Derived.Test.YtjklgmhaebjjaaaGreatMgOidealMain3
import Derived.Test.YtjklgmhaebjjaaaGreatMgOidealMain4
import Derived.Laws.StructEq
import Derived.Laws.Rows
import Derived.Deep.MidRow
namespace Go.Proofs.YtjklgmhaebjjaaaGreat
open Go.RowKit
set_option linter.unusedVariables false
set_option linter.unusedSimpArgs false

theorem part_byte (l : List UInt8) (i : Nat) (hi : i < l.length) (w : World) : (part 5 (bvs l).toArray i).run Tryz.prog w = .ok (.int .u8 (l[i].toNat : Int)) w := by
  obtain ⟨i0, hi0, hz0, hz1, hz2⟩ := info_parts info5
  simp [part, isAgg, run_underlying Tryz.underlying5, sizeOf, typeInfo, hi0, hz1, bvs, bv, hi]
theorem eq_self_loop (l : List UInt8) (d : Nat) (w : World) : ∀ L : List Nat, (∀ i ∈ L, i < l.length) →
    (forIn (m := Sem) L (none, ()) fun (i : Nat) (s : Option Bool × Unit) => do
      let x ← part 5 (bvs l).toArray i
      let y ← part 5 (bvs l).toArray i
      let b ← Op.equalIn (d + 1) 5 x y
      if b = false then pure (ForInStep.done (some false, ())) else pure (ForInStep.yield (none, ()))).run Tryz.prog w = .ok (none, ()) w
  | [], _ => by simp
  | i :: L, h => by
    have hi := h i (by simp)
    rw [List.forIn_cons]
    simp only [Sem.run_bind, part_byte l i hi, Result.andThen_ok, run_equalIn_int w d 5 .u8 _ _ _ Tryz.underlying5, beq_self_eq_true, Bool.true_eq_false, if_false, Sem.run_pure]
    exact eq_self_loop l d w L (fun j hj => h j (by simp [hj]))
theorem eq_self (l : List UInt8) (t : TypeId) (n : Nat) (hu : Tryz.prog.underlying t = some (.array n 5)) (hl : l.length = n) (d : Nat) (w : World) :
    (Op.equalIn (d + 2) t (.agg (bvs l).toArray) (.agg (bvs l).toArray)).run Tryz.prog w = .ok true w := by
  obtain ⟨i0, hi, hz0, hz1, hz2⟩ := info_parts info5
  have key := eq_self_loop l d w (List.range' 0 n) (fun i hi => by simp at hi; omega)
  rw [Op.equalIn]
  simp only [Sem.run_bind, run_underlying hu, Result.andThen_ok, sizeOf, typeInfo, hi]
  simp [hi, hz1]
  rw [key]
  simp
end Go.Proofs.YtjklgmhaebjjaaaGreat
namespace Go.Proofs.YtjklgmhaebjjaaaGreat
open Go.RowKit
set_option linter.unusedVariables false
set_option linter.unusedSimpArgs false

theorem eq_arr (l : List UInt8) (t : TypeId) (n : Nat) (hu : Tryz.prog.underlying t = some (.array n 5)) (hl : l.length = n) (w : World) :
    (binOp .eql t (.agg (bvs l).toArray) (.agg (bvs l).toArray)).run Tryz.prog w = .ok (.bool true) w := by
  have h : (Op.equal t (.agg (bvs l).toArray) (.agg (bvs l).toArray)).run Tryz.prog w = .ok true w := eq_self l t n hu hl 9998 w
  simp only [binOp]
  simp [h]
theorem exec_eq_arr (l : List UInt8) (t : TypeId) (n : Nat) (hu : Tryz.prog.underlying t = some (.array n 5)) (hgt : Tryz.prog.eqGuardType Tryz.prog.depth t = false) (hl : l.length = n) {a : Act} {d : Option Tmp} {ty t2 : TypeId} {pos : String} {after : Array Edge} {guard : Option (Nat × Bool)} (x y : Operand)
    (hx : a.eval x = .agg (bvs l).toArray) (hy : a.eval y = .agg (bvs l).toArray) (w : World) : (execOp a.eval ⟨d, .binOp .eql t x y t2, ty, pos, after, guard⟩).run Tryz.prog w = .ok (.value (.bool true)) w := by
  have h := eq_arr l t n hu hl w
  have hg : (eqGuard .eql t x y (.agg (bvs l).toArray) (.agg (bvs l).toArray)).run Tryz.prog w = .ok () w := by
    unfold eqGuard
    simp [hgt, run_program]
  unfold execOp
  simp only [hx, hy, Sem.run_bind, hg, Result.andThen_ok, h, Sem.run_pure]
theorem exec_load_row {P : Program} {W : World} {a : Act} {d : Option Tmp} {ty : TypeId} {pos : String} {after : Array Edge} {guard : Option (Nat × Bool)} (t : TypeId) (x : Operand) {g : Nat} {cs : Array Value} {t' : TypeId} {fr : Nat × Nat} (dd : TypeDesc) (hx : a.eval x = .pointer (some ⟨g, 0, none⟩)) (hg : W.heap[g]? = some (.cells cs t' fr))
    (hu : P.underlying t = some dd) (hd : dd.isRow = true) (hi : (P.info? t).map (·.size) = some cs.size) :
    (execOp a.eval ⟨d, .load t x, ty, pos, after, guard⟩).run P W = .ok (.value (.agg cs)) W := by
  have hl := run_loadVar_row (P := P) W g t' t cs fr dd hg hu (by cases dd <;> simp_all) hi
  unfold execOp
  simp only [hx, Instr.loadAt, Instr.sureAddr, Sem.run_bind, Sem.run_pure, Result.andThen_ok, hl]
end Go.Proofs.YtjklgmhaebjjaaaGreat
