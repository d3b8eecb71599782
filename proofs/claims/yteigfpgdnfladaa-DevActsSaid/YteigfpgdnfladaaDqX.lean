/-
  A write, built: its sector, its bytes.
-/
import Derived.Test.YteigfpgdnfladaaDqC
namespace Go.Proofs.Yteigfpgdnfladaa.S13
open Cf
open Go.RowKit
set_option linter.unusedVariables false
set_option linter.unusedSimpArgs false
theorem foldPut (o : Nat) : ∀ (l : List Value) (k : Nat) (cur : Array Value), ((l.zipIdx k).foldl (fun (cs : Array Value) (x : Value × Nat) => cs.setIfInBounds (o + x.2) x.1) cur).size = cur.size ∧
    ∀ m, ((l.zipIdx k).foldl (fun (cs : Array Value) (x : Value × Nat) => cs.setIfInBounds (o + x.2) x.1) cur)[m]? = if o + k ≤ m ∧ m < o + k + l.length ∧ m < cur.size then l[m - (o + k)]? else cur[m]?
  | [], k, cur => ⟨rfl, fun m => by rw [if_neg (by simp; omega)]; rfl⟩
  | v :: r, k, cur => by
    rw [List.zipIdx_cons, List.foldl_cons]
    obtain ⟨h1, h2⟩ := foldPut o r (k + 1) (cur.setIfInBounds (o + k) v)
    refine ⟨by rw [h1, Array.size_setIfInBounds], fun m => ?_⟩
    rw [h2, Array.size_setIfInBounds, List.length_cons]
    by_cases c1 : o + (k + 1) ≤ m ∧ m < o + (k + 1) + r.length ∧ m < cur.size
    · rw [if_pos c1, if_pos (by omega), show m - (o + k) = (m - (o + (k + 1))) + 1 by omega, List.getElem?_cons_succ]
    · rw [if_neg c1, Array.getElem?_setIfInBounds]
      by_cases c2 : o + k = m
      · subst c2
        by_cases c3 : o + k < cur.size
        · rw [if_pos rfl, if_pos c3, if_pos (by omega), Nat.sub_self]; rfl
        · rw [if_pos rfl, if_neg c3, if_neg (by omega), Array.getElem?_eq_none (by omega)]
      · rw [if_neg c2, if_neg (by omega)]
theorem built68 : Try.prog.built 68 = fun parts => Instr.fill (#[((0 : Nat), (1 : Nat)), (1, 512)][·]?) (Value.int .i64 0 :: bvs z512).toArray parts := by kernel_rfl
theorem builtW (k : Int) (l : List UInt8) (hl : l.length = 512) : Try.prog.built 68 [(0, .int .i64 k), (1, .agg (bvs l).toArray)] = some (Value.int .i64 k :: bvs l).toArray := by
  rw [built68]
  obtain ⟨z, hz⟩ : ∃ z, z = bvs z512 := ⟨_, rfl⟩
  have hzl : z.length = 512 := by rw [hz, bvs_length, z512_len]
  have hll : (bvs l).length = 512 := by rw [bvs_length, hl]
  obtain ⟨x, hx⟩ : ∃ x, x = bvs l := ⟨_, rfl⟩
  rw [← hx] at hll ⊢
  rw [← hz]
  obtain ⟨N, hN⟩ : ∃ N, N = 512 := ⟨_, rfl⟩
  rw [← hN] at hzl hll ⊢
  clear hz hx hN
  obtain ⟨f1, f2⟩ := foldPut 1 x 0 (Value.int .i64 k :: z).toArray
  simp only [Instr.fill, Value.cells]
  simp [hll, hzl, Instr.fill]
  refine ⟨by omega, Array.ext_getElem? fun m => ?_⟩
  rw [f2]
  simp only [List.size_toArray, List.length_cons, List.getElem?_toArray, hzl, hll]
  cases m with
  | zero => rw [if_neg (by omega)]; rfl
  | succ m =>
    by_cases c : m < N
    · rw [if_pos (by omega), show m + 1 - (1 + 0) = m by omega, List.getElem?_cons_succ]
    · rw [if_neg (by omega), List.getElem?_cons_succ, List.getElem?_cons_succ, List.getElem?_eq_none (by omega), List.getElem?_eq_none (by omega)]
theorem wpList_buildW {ops : Array Oper} {rest : List Oper} {o : Oper} {a : Act} {w : World} {Q : Exit → Act → World → Prop} (hg : o.guard = none) (x y : Operand) (ho : o.op = .build 68 #[(0, x), (1, y)]) {k : Int} {l : List UInt8} (hx : a.eval x = .int .i64 k) (hy : a.eval y = .agg (bvs l).toArray) (hl : l.length = 512)
    (h : wpList Try.prog ops Q rest (a.put o.dst (.agg (.int .i64 k :: bvs l).toArray)) w) : wpList Try.prog ops Q (o :: rest) a w := by
  have hb := builtW k l hl
  have he : (#[((0 : Nat), x), (1, y)].map fun (i, z) => (i, a.eval z)).toList = [(0, .int .i64 k), (1, .agg (bvs l).toArray)] := by simp [hx, hy]
  refine wpList_build hg _ _ ho (by rw [he, hb]; rfl) ?_
  rw [he, hb]
  exact h
end Go.Proofs.Yteigfpgdnfladaa.S13
