/-
  An array of 32 bytes is equal to itself.
-/
import Derived.Test.YtanalbdbkfmifaaApp
import Derived.Laws.StructEq
namespace Go.Proofs.Ytanalbdbkfmifaa
open Go.RowKit
set_option linter.unusedVariables false
set_option linter.unusedSimpArgs false

theorem part_byte (l : List UInt8) (i : Nat) (hi : i < l.length) (w : World) : (part 5 (bvs l).toArray i).run Try.prog w = .ok (.int .u8 (l[i].toNat : Int)) w := by
  obtain ⟨i0, hi0, hz0, hz1, hz2⟩ := info_parts info5
  simp [part, isAgg, run_underlying Try.underlying5, sizeOf, typeInfo, hi0, hz1, bvs, bv, hi]
theorem eq_self_loop (l : List UInt8) (d : Nat) (w : World) : ∀ L : List Nat, (∀ i ∈ L, i < l.length) →
    (forIn (m := Sem) L (none, ()) fun (i : Nat) (s : Option Bool × Unit) => do
      let x ← part 5 (bvs l).toArray i
      let y ← part 5 (bvs l).toArray i
      let b ← Op.equalIn (d + 1) 5 x y
      if b = false then pure (ForInStep.done (some false, ())) else pure (ForInStep.yield (none, ()))).run Try.prog w = .ok (none, ()) w
  | [], _ => by simp
  | i :: L, h => by
    have hi := h i (by simp)
    rw [List.forIn_cons]
    simp only [Sem.run_bind, part_byte l i hi, Result.andThen_ok, run_equalIn_int w d 5 .u8 _ _ _ Try.underlying5, beq_self_eq_true, Bool.true_eq_false, if_false, Sem.run_pure]
    exact eq_self_loop l d w L (fun j hj => h j (by simp [hj]))
theorem eq_self (l : List UInt8) (t : TypeId) (n : Nat) (hu : Try.prog.underlying t = some (.array n 5)) (hl : l.length = n) (d : Nat) (w : World) :
    (Op.equalIn (d + 2) t (.agg (bvs l).toArray) (.agg (bvs l).toArray)).run Try.prog w = .ok true w := by
  obtain ⟨i0, hi, hz0, hz1, hz2⟩ := info_parts info5
  have key := eq_self_loop l d w (List.range' 0 n) (fun i hi => by simp at hi; omega)
  rw [Op.equalIn]
  simp only [Sem.run_bind, run_underlying hu, Result.andThen_ok, sizeOf, typeInfo, hi]
  simp [hi, hz1]
  rw [key]
  simp
end Go.Proofs.Ytanalbdbkfmifaa
