/-
  append, and what it leaves alone: every block of another type.
-/
import Derived.Test.YtbofikghcoalbaaDoorApp
namespace Go.Proofs.YtbofikghcoalbaaDoor
open Go.RowKit
set_option linter.unusedVariables false

/-- Blocks that are no rows of bytes are as they were. -/
def Keep5 (w w' : World) : Prop := ∀ (g : Nat) (cs : Array Value) (t : TypeId) (f : Nat × Nat), t ≠ 5 → w.heap[g]? = some (Obj.cells cs t f) → w'.heap[g]? = some (Obj.cells cs t f)
theorem Keep5.refl (w : World) : Keep5 w w := fun _ _ _ _ _ h => h
theorem Keep5.trans {a b c : World} (h : Keep5 a b) (k : Keep5 b c) : Keep5 a c := fun g cs t f ht hg => k g cs t f ht (h g cs t f ht hg)
theorem Keep5.of_below {w w' : World} (h : Below w.heap.size w w') : Keep5 w w' := fun g cs t f _ hg => (h.block g (lt_of_heap hg)).trans hg

theorem run_appK {w : World} {base : Nat} {A : Option Addr} {c : Nat} {l : List UInt8} (h : Own w base A c l) {B : Nat} {A2 : Option Addr} (c2 : Nat) {l2 : List UInt8} (h2 : Rd w B A2 l2)
    (hl : l.length + l2.length ≤ 4294967296) (hbase : base ≤ w.heap.size) (ty : TypeId) :
    ∃ A' c' w', (Builtin.append_ #[22, 22] ty #[.slice A l.length c, .slice A2 l2.length c2]).run Tryd.prog w = .ok (.slice A' (l ++ l2).length c') w' ∧ Own w' base A' c' (l ++ l2) ∧ Below base w w' ∧ Keep5 w w' := by
  obtain ⟨i0, hi, hz0, hz1, hz2⟩ := info_parts info5
  by_cases hn : A2 = none
  · subst hn
    have hl2 : l2 = [] := by
      rcases h2 with h2 | ⟨b, off, e, _⟩
      · exact h2
      · cases e
    subst hl2
    refine ⟨A, c, w, ?_, by simpa using h, Below.refl _ _, Keep5.refl _⟩
    have h' : w.ownsRow base 5 1 (.slice A l.length c) l.length (bvs l) := h
    rcases h'.2 with ⟨h1, h3⟩ | ⟨g, cap, cur, h1, _, _, hnc, _⟩
    · simp only [Value.slice.injEq] at h1
      obtain ⟨rfl, _, rfl⟩ := h1
      have : l = [] := List.eq_nil_of_length_eq_zero h3
      subst this
      simp [Builtin.append_, run_underlying Tryd.underlying22, sizeOf, typeInfo, hi, Builtin.lenOf, Builtin.firstCells]
    · simp only [Value.slice.injEq] at h1
      obtain ⟨rfl, _, rfl⟩ := h1
      simp [Builtin.append_, run_underlying Tryd.underlying22, sizeOf, typeInfo, hi, Builtin.lenOf, Builtin.firstCells, hnc, storeCells]
  · obtain ⟨ad, rfl⟩ : ∃ ad, A2 = some ad := by cases A2 with | none => exact absurd rfl hn | some ad => exact ⟨ad, rfl⟩
    have hcells : ∀ j u, (bvs l2)[j]? = some u → w.cell? (ad.add j) = some u := by
      intro j u hu
      rcases h2 with rfl | ⟨b, off, e, hb, hc⟩
      · simp [bvs] at hu
      · simp only [Option.some.injEq] at e
        subst e
        have hj : j < l2.length := by
          have := (List.getElem?_eq_some_iff.1 hu).1
          simpa [bvs] using this
        have h3 := hc j hj
        simp [bvs, hj] at hu
        subst hu
        by_cases h0 : j = 0
        · subst h0; simpa [Addr.add] using h3
        · simpa [Addr.add, h0] using h3
    obtain ⟨v', w', hrun, hown', hg, _⟩ := run_append_own (P := Tryd.prog) w base 22 ty 5 i0 _ 1 1 Tryd.underlying22 hi hz0 hz1 hz2 rfl (by omega) _ _ _ h ad l2.length c2 (bvs l2) (by simp [bvs]) hcells (bvs_one l2)
      (by unfold maxLen; omega) (by omega) hbase
    have hv : ∃ A' c', v' = .slice A' (l ++ l2).length c' := by
      rcases hown'.2 with ⟨h1, h3⟩ | ⟨g, cap, cur, h1, _⟩
      · exact ⟨none, 0, by rw [h1]; simp at h3; simp [h3]⟩
      · exact ⟨some ⟨g, 0, none⟩, cap, by rw [h1]; simp⟩
    obtain ⟨A', c', rfl⟩ := hv
    refine ⟨A', c', w', hrun, ?_, ?_, ?_⟩
    · unfold Own
      have e1 : (l ++ l2).length = l.length + l2.length := by simp
      have e2 : bvs (l ++ l2) = bvs l ++ bvs l2 := by simp [bvs]
      rw [e2]
      rw [e1] at hown' ⊢
      exact hown'
    · refine (Below.refl _ _).grown hg hbase fun k hk => ?_
      rcases h.form with ⟨rfl, _⟩ | ⟨g, cur, rfl, hgb, _⟩
      · simp [Value.ownBlock] at hk
      · simp [Value.ownBlock] at hk; omega
    · intro g cs t f ht hcs
      refine (hg.block g (lt_of_heap hcs) ?_).trans hcs
      rcases h.form with ⟨rfl, _⟩ | ⟨g', cur, rfl, hgb, hcur, _⟩
      · simp [Value.ownBlock]
      · intro e
        simp only [Value.ownBlock, Option.some.injEq] at e
        subst e
        rw [hcur] at hcs
        simp only [Option.some.injEq, Obj.cells.injEq] at hcs
        exact ht hcs.2.1.symm

section
variable {w : World} {ops : Array Oper} {rest : List Oper} {o : Oper} {a : Act}
theorem wp_appK {K : Act → World → Prop} {Q : Exit → Act → World → Prop} (s x : Operand) (ho : o.op = .call { callee := .builtin .append, args := #[s, x], argTypes := #[22, 22] })
    {base : Nat} {A : Option Addr} {n c : Nat} {l : List UInt8} (hn : l.length = n) (hs : a.eval s = .slice A n c) (h : Own w base A c l) {B : Nat} {A2 : Option Addr} {n2 c2 : Nat} {l2 : List UInt8} (hn2 : l2.length = n2) (hx : a.eval x = .slice A2 n2 c2) (h2 : Rd w B A2 l2)
    (hl : n + n2 ≤ 4294967296) (hbase : base ≤ w.heap.size)
    (hk : ∀ A' c' w', Own w' base A' c' (l ++ l2) → Below base w w' → Keep5 w w' → K (a.put o.dst (.slice A' (n + n2) c')) w') : o.wp Tryd.prog a w K Q := by
  subst hn hn2
  obtain ⟨A', c', w', hrun, h3, h4, h5⟩ := run_appK h c2 h2 hl hbase o.type
  unfold Oper.wp execOp
  simp only [ho, resolve, invoke, builtin, Sem.run_bind, Sem.run_pure, Result.andThen_ok, List.map_toArray, List.map_cons, List.map_nil, hs, hx, hrun]
  have := hk A' c' w' h3 h4 h5
  rwa [← List.length_append] at this
theorem wpList_appK {Q : Exit → Act → World → Prop} (hgd : o.guard = none) (s x : Operand) (ho : o.op = .call { callee := .builtin .append, args := #[s, x], argTypes := #[22, 22] })
    {base : Nat} {A : Option Addr} {n c : Nat} {l : List UInt8} (hn : l.length = n) (hs : a.eval s = .slice A n c) (h : Own w base A c l) {B : Nat} {A2 : Option Addr} {n2 c2 : Nat} {l2 : List UInt8} (hn2 : l2.length = n2) (hx : a.eval x = .slice A2 n2 c2) (h2 : Rd w B A2 l2)
    (hl : n + n2 ≤ 4294967296) (hbase : base ≤ w.heap.size)
    (hk : ∀ A' c' w', Own w' base A' c' (l ++ l2) → Below base w w' → Keep5 w w' → wpList Tryd.prog ops Q rest (a.put o.dst (.slice A' (n + n2) c')) w') : wpList Tryd.prog ops Q (o :: rest) a w :=
  wpList_plain hgd fun _ hK => wp_appK s x ho hn hs h hn2 hx h2 hl hbase fun A' c' w' h3 h4 h5 => hK _ _ (hk A' c' w' h3 h4 h5)
end
end Go.Proofs.YtbofikghcoalbaaDoor
