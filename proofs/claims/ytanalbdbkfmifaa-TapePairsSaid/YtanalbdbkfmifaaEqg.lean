/-
  '==' of two arrays of bytes (stage 11's copy of PdQ, without AES).
-/
import Derived.Test.YtanalbdbkfmifaaTpL
import Derived.Test.YtanalbdbkfmifaaEqb
namespace Go.Proofs.Ytanalbdbkfmifaa.S11
open Go.RowKit
set_option linter.unusedVariables false
set_option linter.unusedSimpArgs false

theorem part_gt (l : List UInt8) (i : Nat) (hi : i < l.length) (w : World) : (part 5 (bvs l).toArray i).run Try.prog w = .ok (.int .u8 ((gz l i).toNat : Int)) w := by
  rw [part_byte l i hi w]
  simp [gz, List.getD_eq_getElem?_getD, hi]
theorem byte_eq (x y : UInt8) : ((x.toNat : Int) == (y.toNat : Int)) = decide (x = y) := by
  by_cases h : x = y
  · subst h; simp
  · have : ¬ (x.toNat : Int) = (y.toNat : Int) := fun e => h (UInt8.toNat_inj.1 (by omega))
    simp [h, this]
theorem eq_loop2 (l m : List UInt8) (n : Nat) (hl : l.length = n) (hm : m.length = n) (d : Nat) (w : World) : ∀ L : List Nat, (∀ i ∈ L, i < n) →
    (forIn (m := Sem) L (none, ()) fun (i : Nat) (s : Option Bool × Unit) => do
      let x ← part 5 (bvs l).toArray i
      let y ← part 5 (bvs m).toArray i
      let b ← Op.equalIn (d + 1) 5 x y
      if b = false then pure (ForInStep.done (some false, ())) else pure (ForInStep.yield (none, ()))).run Try.prog w = .ok (if (∀ i ∈ L, gz l i = gz m i) then none else some false, ()) w
  | [], _ => by simp
  | i :: L, h => by
    have hi := h i (by simp)
    have ih := eq_loop2 l m n hl hm d w L (fun j hj => h j (by simp [hj]))
    rw [List.forIn_cons]
    simp only [Sem.run_bind, part_gt l i (by omega), part_gt m i (by omega), Result.andThen_ok, run_equalIn_int w d 5 .u8 _ _ _ Try.underlying5]
    rw [byte_eq]
    by_cases he : gz l i = gz m i
    · simp only [he, decide_true, Bool.true_eq_false, if_false, Sem.run_pure, Result.andThen_ok]
      refine Eq.trans ih ?_
      congr 2
      simp [he]
    · simp only [he, decide_false, if_true, Sem.run_pure, Result.andThen_ok]
      congr 2
      rw [if_neg (fun hh => he (hh i (by simp)))]
theorem all_gt (l m : List UInt8) (n : Nat) (hl : l.length = n) (hm : m.length = n) : (∀ i ∈ List.range' 0 n, gz l i = gz m i) ↔ l = m := by
  constructor
  · intro h
    apply List.ext_getElem
    · rw [hl, hm]
    · intro i h1 h2
      have := h i (by simp; omega)
      simpa [gz, List.getD_eq_getElem?_getD, h1, h2] using this
  · rintro rfl i _; rfl
theorem eq_two_in (l m : List UInt8) (t : TypeId) (n : Nat) (hu : Try.prog.underlying t = some (.array n 5)) (hl : l.length = n) (hm : m.length = n) (d : Nat) (w : World) :
    (Op.equalIn (d + 2) t (.agg (bvs l).toArray) (.agg (bvs m).toArray)).run Try.prog w = .ok (decide (l = m)) w := by
  obtain ⟨i0, hi, hz0, hz1, hz2⟩ := info_parts info5
  have key := eq_loop2 l m n hl hm d w (List.range' 0 n) (fun i hi => by simp at hi; omega)
  rw [Op.equalIn]
  simp only [Sem.run_bind, run_underlying hu, Result.andThen_ok, sizeOf, typeInfo, hi]
  simp [hi, hz1]
  rw [key]
  by_cases h : l = m
  · rw [if_pos ((all_gt l m n hl hm).2 h)]; simp [h]
  · rw [if_neg (fun hh => h ((all_gt l m n hl hm).1 hh))]; simp [h]
theorem eq_two (l m : List UInt8) (t : TypeId) (n : Nat) (hu : Try.prog.underlying t = some (.array n 5)) (hl : l.length = n) (hm : m.length = n) (w : World) :
    (binOp .eql t (.agg (bvs l).toArray) (.agg (bvs m).toArray)).run Try.prog w = .ok (.bool (decide (l = m))) w := by
  have h : (Op.equal t (.agg (bvs l).toArray) (.agg (bvs m).toArray)).run Try.prog w = .ok (decide (l = m)) w := eq_two_in l m t n hu hl hm 9998 w
  simp only [binOp]
  simp [h]
theorem exec_eq_two (l m : List UInt8) (t : TypeId) (n : Nat) (hu : Try.prog.underlying t = some (.array n 5)) (hgt : Try.prog.eqGuardType Try.prog.depth t = false) (hl : l.length = n) (hm : m.length = n) {a : Act} {d : Option Tmp} {ty t2 : TypeId} {pos : String} {after : Array Edge} {guard : Option (Nat × Bool)} (x y : Operand)
    (hx : a.eval x = .agg (bvs l).toArray) (hy : a.eval y = .agg (bvs m).toArray) (w : World) : (execOp a.eval ⟨d, .binOp .eql t x y t2, ty, pos, after, guard⟩).run Try.prog w = .ok (.value (.bool (decide (l = m)))) w := by
  have h := eq_two l m t n hu hl hm w
  have hg : (eqGuard .eql t x y (.agg (bvs l).toArray) (.agg (bvs m).toArray)).run Try.prog w = .ok () w := by
    unfold eqGuard
    simp [hgt, run_program]
  unfold execOp
  simp only [hx, hy, Sem.run_bind, hg, Result.andThen_ok, h, Sem.run_pure]
end Go.Proofs.Ytanalbdbkfmifaa.S11
