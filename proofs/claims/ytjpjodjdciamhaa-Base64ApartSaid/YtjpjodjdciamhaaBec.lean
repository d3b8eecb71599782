/-
  What base64's Encode needs besides: a copy into a group of three, and how encodings are put together.
-/
import Derived.Test.YtjpjodjdciamhaaBag
import Derived.Test.YtjpjodjdciamhaaAll
import Derived.Laws.CopyOwn
namespace Go.Proofs.Ytjpjodjdciamhaa
open Go.RowKit
set_option linter.unusedVariables false
set_option linter.unusedSimpArgs false

/-- All but block g is as it was. -/
structure But (g : Nat) (w w' : World) : Prop where
  os : w'.os = w.os
  tape : w'.tape = w.tape
  output : w'.output = w.output
  size : w'.heap.size = w.heap.size
  block : ∀ k, k ≠ g → w'.heap[k]? = w.heap[k]?
theorem But.below {g B : Nat} {w w' : World} (h : But g w w') (hB : B ≤ g) : Below B w w' := ⟨h.os, h.tape, h.output, by rw [h.size]; exact Nat.le_refl _, fun k hk => h.block k (by omega)⟩
theorem But.own {g base c : Nat} {w w' : World} {A : Option Addr} {l : List UInt8} {cs : Array Value} {t : TypeId} {f : Nat × Nat} (h : But g w w') (hg : w.heap[g]? = some (.cells cs t f)) (ht : t ≠ 5) (ho : Own w base A c l) : Own w' base A c l := by
  refine ⟨ho.1, ?_⟩
  rcases ho.2 with h1 | ⟨g', cap, cur, h1, h2, h3, r⟩
  · exact .inl h1
  · refine .inr ⟨g', cap, cur, h1, h2, ?_, r⟩
    rw [h.block g' ?_]
    · exact h3
    · rintro rfl
      rw [hg] at h3
      simp only [Option.some.injEq, Obj.cells.injEq] at h3
      exact ht h3.2.1
theorem But.trans {g : Nat} {a b c : World} (h : But g a b) (k : But g b c) : But g a c := ⟨k.os.trans h.os, k.tape.trans h.tape, k.output.trans h.output, k.size.trans h.size, fun i hi => (k.block i hi).trans (h.block i hi)⟩
theorem But.setRow (w : World) (g : Nat) (cs : Array Value) : But g w (w.setRow g cs) := ⟨rfl, rfl, rfl, by simp [World.setRow], fun k hk => setRow_other w g k cs hk⟩
theorem But.setCell (w : World) (g i : Nat) (v : Value) : But g w (w.setCell ⟨g, i, none⟩ v) := ⟨rfl, rfl, rfl, by simp, fun k hk => Below.heap_setCell w _ v k hk⟩

/-- The cells of an array of three bytes. -/
def g3 (x y z : UInt8) : Array Value := #[.int .u8 (x.toNat : Int), .int .u8 (y.toNat : Int), .int .u8 (z.toNat : Int)]
theorem three_of (l : List UInt8) (h : l.length = 3) : ∃ x y z, l = [x, y, z] := by
  match l, h with
  | [x, y, z], _ => exact ⟨x, y, z, rfl⟩

theorem wpList_copyG {w : World} {ops : Array Oper} {rest : List Oper} {o : Oper} {a : Act} {Q : Exit → Act → World → Prop} (hgd : o.guard = none) (d s : Operand)
    (ho : o.op = .call { callee := .builtin .copy, args := #[d, s], argTypes := #[24, 24] })
    {g hh dLen dCap m c2 B : Nat} {A2 : Option Addr} {lb : List UInt8} {x y z : UInt8} (hd : a.eval d = .slice (some ⟨g, hh, none⟩) dLen dCap) (hs : a.eval s = .slice A2 m c2)
    (hg : w.heap[g]? = some (.cells (g3 x y z) 35 (0, 0))) (hr : Rd w B A2 lb) (hm : lb.length = m) (h0 : 0 < m) (hdl : hh + dLen = 3) (k : Nat) (hk3 : k = min m dLen)
    (hk : ∀ w' x' y' z', [x', y', z'] = [x, y, z].take hh ++ (lb.take k ++ [x, y, z].drop (hh + k)) → w'.heap[g]? = some (.cells (g3 x' y' z') 35 (0, 0)) → But g w w' → wpList Try.prog ops Q rest (a.put o.dst (.int .i64 (k : Int))) w') :
    wpList Try.prog ops Q (o :: rest) a w := by
  obtain ⟨b, off, rfl, hb, hc⟩ := hr.resolve_left (by rintro rfl; simp at hm; omega)
  have hkl : (lb.take k).length = k := by rw [List.length_take]; omega
  obtain ⟨i0, hi, hz0, hz1, hz2⟩ := info_parts info5
  obtain ⟨x', y', z', e⟩ := three_of ([x, y, z].take hh ++ (lb.take k ++ [x, y, z].drop (hh + k))) (by simp only [List.length_append, List.length_take, List.length_drop, List.length_cons, List.length_nil]; omega)
  have key := wpList_copy_own (P := Try.prog) (w := w) (ops := ops) (rest := rest) (o := o) (a := a) (Q := Q) hgd d s 24 24 ho 5 Try.underlying24 (by rw [hi]; simp [hz1]) g hh dLen dCap ⟨b, off, none⟩ m c2 hd hs (g3 x y z) 35 hg (bvs (lb.take k))
    (by rw [bvs_length, hkl, hk3]) (by
      intro j v hv
      have hj : j < (lb.take k).length := by
        have := (List.getElem?_eq_some_iff.1 hv).1
        simpa [bvs] using this
      have h3 := hc j (by rw [List.length_take] at hj; omega)
      simp only [bvs, List.getElem?_map, List.getElem?_eq_getElem hj, Option.map_some, Option.some.injEq] at hv
      rw [← hv, List.getElem_take]
      by_cases h0 : j = 0
      · subst h0; simpa [Addr.add] using h3
      · simpa [Addr.add, h0] using h3) (by rw [bvs_length, hkl]; show hh + k ≤ 3; omega) (bvs_one _)
  apply key
  rw [show (goInt (bvs (lb.take k)).length : Value) = .int .i64 (k : Int) by rw [bvs_length, hkl]; rfl]
  refine hk _ x' y' z' e.symm ?_ (But.setRow w g _)
  rw [setRow_heap w g _ _ 35 _ hg]
  have e2 : (g3 x y z).toList = bvs [x, y, z] := rfl
  have e3 : g3 x' y' z' = (bvs [x', y', z']).toArray := rfl
  rw [e2, e3, ← e, bvs_length, hkl]
  simp only [bvs, List.map_append, List.map_take, List.map_drop]

theorem enc_app : ∀ (k : Nat) (a b : List UInt8), a.length = 3 * k → encL (a ++ b) = encL a ++ encL b
  | 0, a, b, h => by
    obtain rfl : a = [] := List.eq_nil_of_length_eq_zero (by omega)
    simp [enc_nil]
  | k + 1, x :: y :: z :: a, b, h => by
    have ih := enc_app k a b (by simp at h; omega)
    simp only [List.cons_append]
    rw [enc_three, enc_three, ih]
    rfl
  | k + 1, [], b, h => by simp at h
  | k + 1, [x], b, h => by simp at h; omega
  | k + 1, [x, y], b, h => by simp at h; omega
end Go.Proofs.Ytjpjodjdciamhaa
