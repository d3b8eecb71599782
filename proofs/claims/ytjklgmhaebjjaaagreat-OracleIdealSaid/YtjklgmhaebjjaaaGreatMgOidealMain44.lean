/-
  Two ideal oracles of one tape that are asked questions of the same shape, on lists. '==' of two arrays of bytes (stage 11's copy of PdQ, without AES).
-/
import Derived.Test.YtjklgmhaebjjaaaGreatMgOidealMain19
import Derived.Test.YtjklgmhaebjjaaaGreatMgOidealMain33
import Derived.Test.YtjklgmhaebjjaaaGreatMgOidealMain9
import Derived.Test.YtjklgmhaebjjaaaGreatMgOidealMain36
namespace Go.Proofs.YtjklgmhaebjjaaaGreat.S12
open S11
set_option linter.unusedVariables false
set_option linter.unusedSimpArgs false

theorem find_same {α : Type} (p q : α → Bool) : ∀ (l : List α), (∀ a ∈ l, p a = q a) → l.find? p = l.find? q
  | [], _ => rfl
  | a :: l, h => by
    have h0 := h a (by simp)
    have ih := find_same p q l (fun b hb => h b (by simp [hb]))
    simp only [List.find?_cons, h0, ih]
theorem any_same {α : Type} (p q : α → Bool) : ∀ (l : List α), (∀ a ∈ l, p a = q a) → l.any p = l.any q
  | [], _ => rfl
  | a :: l, h => by
    have h0 := h a (by simp)
    have ih := any_same p q l (fun b hb => h b (by simp [hb]))
    simp only [List.any_cons, h0, ih]
theorem find_map {α β : Type} (f : α → β) (p : β → Bool) : ∀ (l : List α), (l.map f).find? p = (l.find? (fun a => p (f a))).map f
  | [] => rfl
  | a :: l => by
    simp only [List.map_cons, List.find?_cons]
    cases h : p (f a) with
    | true => rfl
    | false => exact find_map f p l
theorem any_map {α β : Type} (f : α → β) (p : β → Bool) : ∀ (l : List α), (l.map f).any p = l.any (fun a => p (f a))
  | [] => rfl
  | a :: l => by simp only [List.map_cons, List.any_cons, any_map f p l]

def fA (X : Nat → List UInt8) (e : Nat × List UInt8) : T3 := ⟨sealN, sealQ [] (X e.1), e.2⟩
def pA (X : Nat → List UInt8) (e : Nat × List UInt8) : T3 := ⟨blockQ z32, X e.1, e.2⟩
/-- One has been asked X where the other was asked Y: the rest is the same. -/
structure Par (X Y : Nat → List UInt8) (i : Nat) (sa sb : St) : Prop where
  seed : sa.seed = sb.seed
  bad : sa.bad = sb.bad
  cnt : sa.cnt = sb.cnt
  ex : ∃ L P : List (Nat × List UInt8), (∀ e ∈ L, e.1 < i) ∧ (∀ e ∈ P, e.1 < i) ∧ sa.fs = L.map (fA X) ∧ sb.fs = L.map (fA Y) ∧ sa.ps = P.map (pA X) ∧ sb.ps = P.map (pA Y)
theorem Par.up {X Y : Nat → List UInt8} {i j : Nat} {sa sb : St} (h : Par X Y i sa sb) (hj : i ≤ j) : Par X Y j sa sb := by
  obtain ⟨h1, h2, h3, L, P, hL, hP, r⟩ := h
  exact ⟨h1, h2, h3, L, P, fun e he => Nat.lt_of_lt_of_le (hL e he) hj, fun e he => Nat.lt_of_lt_of_le (hP e he) hj, r⟩
theorem sealQ_inj {a b : List UInt8} : sealQ [] a = sealQ [] b ↔ a = b := by
  unfold sealQ
  constructor
  · intro h
    exact List.append_cancel_left h
  · rintro rfl; rfl
section
variable {X Y : Nat → List UInt8} {i j : Nat} {sa sb : St}
theorem par_seal (h : Par X Y j sa sb) (hi : i < j) (hs : ∀ k, k < j → (X k = X i ↔ Y k = Y i)) :
    (fnOp sa sealN (sealQ [] (X i)) 64).1 = (fnOp sb sealN (sealQ [] (Y i)) 64).1 ∧ Par X Y j (fnOp sa sealN (sealQ [] (X i)) 64).2 (fnOp sb sealN (sealQ [] (Y i)) 64).2 := by
  have h0 := h
  obtain ⟨h1, h2, h3, L, P, hL, hP, e1, e2, e3, e4⟩ := h
  have key : L.find? (fun e => hitF sealN (sealQ [] (X i)) (fA X e)) = L.find? (fun e => hitF sealN (sealQ [] (Y i)) (fA Y e)) := by
    refine find_same _ _ L fun e he => ?_
    have := hs e.1 (hL e he)
    simp only [hitF, fA, sealQ_inj]
    simp only [decide_true, Bool.true_and]
    exact decide_eq_decide.2 this
  unfold fnOp
  rw [e1, e2, find_map, find_map, key]
  cases hf : L.find? (fun e => hitF sealN (sealQ [] (Y i)) (fA Y e)) with
  | some e => exact ⟨rfl, h0⟩
  | none =>
    simp only [Option.map_none]
    refine ⟨by rw [h1], ⟨by simp only [fnNew, h1], ?_, by simp only [fnNew, h3], L ++ [(i, drawO sa.seed (64 : Int).toNat)], P, ?_, hP, ?_, ?_, by simp only [fnNew, e3], by simp only [fnNew, e4]⟩⟩
    · simp only [fnNew, e1, e2, any_map, h2, h1]
      congr 1
    · intro e he
      rcases List.mem_append.1 he with he | he
      · exact hL e he
      · simp only [List.mem_singleton] at he; subst he; exact hi
    · simp only [fnNew, e1, List.map_append, List.map_cons, List.map_nil, fA]
    · simp only [fnNew, e2, List.map_append, List.map_cons, List.map_nil, fA, h1]
theorem par_enc (h : Par X Y j sa sb) (hi : i < j) (hs : ∀ k, k < j → (X k = X i ↔ Y k = Y i)) (hX : ∀ k, k < j → (X k).length = 16) (hY : ∀ k, k < j → (Y k).length = 16) :
    (prOp sa (blockQ z32) (X i) true).1 = (prOp sb (blockQ z32) (Y i) true).1 ∧ Par X Y j (prOp sa (blockQ z32) (X i) true).2 (prOp sb (blockQ z32) (Y i) true).2 := by
  have h0 := h
  obtain ⟨h1, h2, h3, L, P, hL, hP, e1, e2, e3, e4⟩ := h
  have lx := hX i hi
  have ly := hY i hi
  have nx : ¬ X i = [] := ne_nil_of lx (by omega)
  have ny : ¬ Y i = [] := ne_nil_of ly (by omega)
  have key : P.find? (fun e => hitQ (blockQ z32) (X i) true (pA X e)) = P.find? (fun e => hitQ (blockQ z32) (Y i) true (pA Y e)) := by
    refine find_same _ _ P fun e he => ?_
    have := hs e.1 (hP e he)
    simp only [hitQ, pA, hX _ (hP e he), hY _ (hP e he), lx, ly, decide_true, Bool.true_and, if_true]
    exact decide_eq_decide.2 this
  have tk : ∀ y, taken (P.map (pA X)) (blockQ z32) y false = taken (P.map (pA Y)) (blockQ z32) y false := fun y => by
    unfold taken
    rw [any_map, any_map]
    refine any_same _ _ P fun e he => ?_
    simp only [hitP, pA, hX _ (hP e he), hY _ (hP e he)]
    rfl
  have fr : freeY sa (blockQ z32) (X i) true = freeY sb (blockQ z32) (Y i) true := by
    unfold freeY
    rw [lx, ly, h1, e3, e4]
    congr 1
    funext y
    exact tk y
  unfold prOp
  rw [if_neg nx, if_neg ny, e3, e4, find_map, find_map, key]
  cases hf : P.find? (fun e => hitQ (blockQ z32) (Y i) true (pA Y e)) with
  | some e => exact ⟨rfl, h0⟩
  | none =>
    simp only [Option.map_none]
    refine ⟨fr, ⟨by simp only [prNew, h1, lx, ly], ?_, by simp only [prNew, h3], L, P ++ [(i, freeY sa (blockQ z32) (X i) true)], hL, ?_, by simp only [prNew, e1], by simp only [prNew, e2], ?_, ?_⟩⟩
    · simp only [prNew, h2, e3, e4, lx, ly, h1]
      congr 1
      exact tk _
    · intro e he
      rcases List.mem_append.1 he with he | he
      · exact hP e he
      · simp only [List.mem_singleton] at he; subst he; exact hi
    · simp only [prNew, e3, List.map_append, List.map_cons, List.map_nil, pA, told]
      rfl
    · simp only [prNew, e4, List.map_append, List.map_cons, List.map_nil, pA, told, fr]
      rfl
end
theorem par_emp (X Y : Nat → List UInt8) (seed : List UInt8) (st : St) (h : st.fs = [] ∧ st.ps = []) : Par X Y 0 st st :=
  ⟨rfl, rfl, rfl, [], [], by simp, by simp, by simp [h.1], by simp [h.1], by simp [h.2], by simp [h.2]⟩
end Go.Proofs.YtjklgmhaebjjaaaGreat.S12
namespace Go.Proofs.YtjklgmhaebjjaaaGreat.S11
open Go.RowKit
set_option linter.unusedVariables false
set_option linter.unusedSimpArgs false

theorem part_gt (l : List UInt8) (i : Nat) (hi : i < l.length) (w : World) : (part 5 (bvs l).toArray i).run Tryz.prog w = .ok (.int .u8 ((gz l i).toNat : Int)) w := by
  rw [part_byte l i hi w]
  simp [gz, List.getD_eq_getElem?_getD, hi]
theorem byte_eq (x y : UInt8) : ((x.toNat : Int) == (y.toNat : Int)) = decide (x = y) := by
  by_cases h : x = y
  · subst h; simp
  · have : ¬ (x.toNat : Int) = (y.toNat : Int) := fun e => h (UInt8.toNat_inj.1 (by omega))
    simp [h, this]
theorem eq_loop2 (l m : List UInt8) (n : Nat) (hl : l.length = n) (hm : m.length = n) (d : Nat) (w : World) : ∀ L : List Nat, (∀ i ∈ L, i < n) →
    (forIn (m := Sem) L (none, ()) fun (i : Nat) (s : Option Bool × Unit) => do
      let x ← part 5 (bvs l).toArray i
      let y ← part 5 (bvs m).toArray i
      let b ← Op.equalIn (d + 1) 5 x y
      if b = false then pure (ForInStep.done (some false, ())) else pure (ForInStep.yield (none, ()))).run Tryz.prog w = .ok (if (∀ i ∈ L, gz l i = gz m i) then none else some false, ()) w
  | [], _ => by simp
  | i :: L, h => by
    have hi := h i (by simp)
    have ih := eq_loop2 l m n hl hm d w L (fun j hj => h j (by simp [hj]))
    rw [List.forIn_cons]
    simp only [Sem.run_bind, part_gt l i (by omega), part_gt m i (by omega), Result.andThen_ok, run_equalIn_int w d 5 .u8 _ _ _ Tryz.underlying5]
    rw [byte_eq]
    by_cases he : gz l i = gz m i
    · simp only [he, decide_true, Bool.true_eq_false, if_false, Sem.run_pure, Result.andThen_ok]
      refine Eq.trans ih ?_
      congr 2
      simp [he]
    · simp only [he, decide_false, if_true, Sem.run_pure, Result.andThen_ok]
      congr 2
      rw [if_neg (fun hh => he (hh i (by simp)))]
theorem all_gt (l m : List UInt8) (n : Nat) (hl : l.length = n) (hm : m.length = n) : (∀ i ∈ List.range' 0 n, gz l i = gz m i) ↔ l = m := by
  constructor
  · intro h
    apply List.ext_getElem
    · rw [hl, hm]
    · intro i h1 h2
      have := h i (by simp; omega)
      simpa [gz, List.getD_eq_getElem?_getD, h1, h2] using this
  · rintro rfl i _; rfl
theorem eq_two_in (l m : List UInt8) (t : TypeId) (n : Nat) (hu : Tryz.prog.underlying t = some (.array n 5)) (hl : l.length = n) (hm : m.length = n) (d : Nat) (w : World) :
    (Op.equalIn (d + 2) t (.agg (bvs l).toArray) (.agg (bvs m).toArray)).run Tryz.prog w = .ok (decide (l = m)) w := by
  obtain ⟨i0, hi, hz0, hz1, hz2⟩ := info_parts info5
  have key := eq_loop2 l m n hl hm d w (List.range' 0 n) (fun i hi => by simp at hi; omega)
  rw [Op.equalIn]
  simp only [Sem.run_bind, run_underlying hu, Result.andThen_ok, sizeOf, typeInfo, hi]
  simp [hi, hz1]
  rw [key]
  by_cases h : l = m
  · rw [if_pos ((all_gt l m n hl hm).2 h)]; simp [h]
  · rw [if_neg (fun hh => h ((all_gt l m n hl hm).1 hh))]; simp [h]
theorem eq_two (l m : List UInt8) (t : TypeId) (n : Nat) (hu : Tryz.prog.underlying t = some (.array n 5)) (hl : l.length = n) (hm : m.length = n) (w : World) :
    (binOp .eql t (.agg (bvs l).toArray) (.agg (bvs m).toArray)).run Tryz.prog w = .ok (.bool (decide (l = m))) w := by
  have h : (Op.equal t (.agg (bvs l).toArray) (.agg (bvs m).toArray)).run Tryz.prog w = .ok (decide (l = m)) w := eq_two_in l m t n hu hl hm 9998 w
  simp only [binOp]
  simp [h]
theorem exec_eq_two (l m : List UInt8) (t : TypeId) (n : Nat) (hu : Tryz.prog.underlying t = some (.array n 5)) (hgt : Tryz.prog.eqGuardType Tryz.prog.depth t = false) (hl : l.length = n) (hm : m.length = n) {a : Act} {d : Option Tmp} {ty t2 : TypeId} {pos : String} {after : Array Edge} {guard : Option (Nat × Bool)} (x y : Operand)
    (hx : a.eval x = .agg (bvs l).toArray) (hy : a.eval y = .agg (bvs m).toArray) (w : World) : (execOp a.eval ⟨d, .binOp .eql t x y t2, ty, pos, after, guard⟩).run Tryz.prog w = .ok (.value (.bool (decide (l = m)))) w := by
  have h := eq_two l m t n hu hl hm w
  have hg : (eqGuard .eql t x y (.agg (bvs l).toArray) (.agg (bvs m).toArray)).run Tryz.prog w = .ok () w := by
    unfold eqGuard
    simp [hgt, run_program]
  unfold execOp
  simp only [hx, hy, Sem.run_bind, hg, Result.andThen_ok, h, Sem.run_pure]
end Go.Proofs.YtjklgmhaebjjaaaGreat.S11
