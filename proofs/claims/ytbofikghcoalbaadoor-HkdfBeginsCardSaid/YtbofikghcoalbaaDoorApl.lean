/-
  append of slices of bytes onto a literal of one.
-/
import Derived.Test.YtbofikghcoalbaaDoorRdl
import Derived.Test.YtbofikghcoalbaaDoorGrow
import Derived.ArgAppend
namespace Go.Proofs.YtbofikghcoalbaaDoor
open Go.RowKit
set_option linter.unusedVariables false
set_option linter.unusedSimpArgs false

theorem infoS : (Tryd.prog.info? 22).map (fun i => (i.zero, i.size, i.bytes)) = some (some (.slice none 0 0), 1, 24) := by kernel_rfl

theorem run_appLs {w : World} {A0 : Option Addr} {n0 c0 g : Nat} {p : List UInt8} (hb : w.heap[g]? = some (.cells #[.slice A0 n0 c0] 22 (0, 0))) (hp : Rd w w.heap.size A0 p) (hn0 : p.length = n0) (hc0 : n0 ≤ c0)
    {A2 : Option Addr} {n : Nat} (c2 : Nat) {ls : List (List UInt8)} (h2 : RdL w w.heap.size A2 ls) (hn : ls.length = n) (hl : n ≤ 100000) (ty : TypeId) :
    ∃ A' c' w', (Builtin.append_ #[39, 39] ty #[.slice (some ⟨g, 0, none⟩) 1 1, .slice A2 n c2]).run Tryd.prog w = .ok (.slice A' (n + 1) c') w' ∧ RdL w' w'.heap.size A' (p :: ls) ∧ Grown w w' := by
  obtain ⟨i0, hi, hz0, hz1, hz2⟩ := info_parts infoS
  have hg := lt_of_heap hb
  have hc : w.cell? ⟨g, 0, none⟩ = some (.slice A0 n0 c0) := by rw [cell_of_row w g 0 _ _ _ hb]; rfl
  by_cases h0 : ls = []
  · subst h0
    obtain rfl : n = 0 := by simpa using hn.symm
    refine ⟨some ⟨g, 0, none⟩, 1, w, ?_, .inr ⟨g, 0, rfl, hg, fun j hj => ?_⟩, Grown.refl w⟩
    · cases A2 <;> simp [Builtin.append_, run_underlying Tryd.underlying39, sizeOf, typeInfo, hi, Builtin.lenOf, Builtin.firstCells, loadCells, loadCellsFrom, storeCells]
    · obtain rfl : j = 0 := by simp at hj; omega
      exact ⟨A0, c0, by simpa [hn0] using hc, by simpa [hn0] using hc0, hp⟩
  · obtain ⟨b, off, rfl, hbl, hcs⟩ := h2.resolve_left h0
    have hpos : 0 < ls.length := List.length_pos_iff.2 h0
    obtain ⟨F, hF⟩ : ∃ F : Nat → Option Addr × Nat, ∀ j (hj : j < ls.length), w.cell? ⟨b, off + j, none⟩ = some (.slice (F j).1 ls[j].length (F j).2) ∧ ls[j].length ≤ (F j).2 ∧ Rd w w.heap.size (F j).1 ls[j] := by
      refine ⟨fun j => if hj : j < ls.length then (Classical.choose (hcs j hj), Classical.choose (Classical.choose_spec (hcs j hj))) else (none, 0), fun j hj => ?_⟩
      simp only [hj, dite_true]
      exact Classical.choose_spec (Classical.choose_spec (hcs j hj))
    obtain ⟨vs, hvs⟩ : ∃ vs : List Value, vs = (List.range n).map fun j => Value.slice (F j).1 (ls.getD j []).length (F j).2 := ⟨_, rfl⟩
    have hvl : vs.length = n := by rw [hvs]; simp
    have hvg : ∀ j, j < n → vs[j]? = some (Value.slice (F j).1 (ls.getD j []).length (F j).2) := fun j hj => by rw [hvs]; simp [hj]
    obtain ⟨v', w', hrun, hown', hgr⟩ := run_append_arg_grows (P := Tryd.prog) w 39 ty 22 i0 _ 1 24 Tryd.underlying39 hi hz0 hz1 hz2 rfl (by omega) ⟨g, 0, none⟩ 1 1 [.slice A0 n0 c0] (by simp)
      (fun j u hu => by
        match j, hu with
        | 0, hu => simp at hu; subst hu; simpa [Addr.add] using hc)
      ⟨b, off, none⟩ n c2 vs (by simp [hvl]) (fun j u hu => by
        have hj : j < n := by have := (List.getElem?_eq_some_iff.1 hu).1; omega
        rw [hvg j hj] at hu
        simp only [Option.some.injEq] at hu
        have hjl : j < ls.length := by omega
        have := (hF j hjl).1
        rw [← hu, show (⟨b, off, none⟩ : Addr).add j = ⟨b, off + j, none⟩ by by_cases hj0 : j = 0 <;> simp [Addr.add, hj0], this]
        simp [List.getD, hjl]) (by omega) (by unfold maxLen; omega) (by omega)
    have hgw : Grown w w' := ⟨hgr.os, hgr.tape, hgr.output, hgr.size, fun k hk => hgr.block k hk (by simp)⟩
    rcases hown'.2 with ⟨_, h4⟩ | ⟨g', cap, cur, rfl, hg1, hg2, hg3, hg4, hg5, hg6⟩
    · omega
    · refine ⟨some ⟨g', 0, none⟩, cap, w', by rw [hrun, Nat.add_comm], .inr ⟨g', 0, rfl, lt_of_heap hg2, fun j hj => ?_⟩, hgw⟩
      simp only [List.length_cons] at hj
      have hcell := hown'.cellAt j (by omega)
      rw [Nat.zero_add, hcell]
      match j, hj with
      | 0, _ => exact ⟨A0, c0, by simp [hn0], by simpa [hn0] using hc0, hp.grow hgw⟩
      | j + 1, hj =>
        have hjl : j < ls.length := by omega
        refine ⟨(F j).1, (F j).2, ?_, (hF j hjl).2.1, (hF j hjl).2.2.grow hgw⟩
        rw [show [Value.slice A0 n0 c0] ++ vs = Value.slice A0 n0 c0 :: vs from rfl, List.getElem?_cons_succ, hvg j (by omega)]
        simp [List.getD, hjl]

theorem wp_appLs {w : World} {o : Oper} {a : Act} {K : Act → World → Prop} {Q : Exit → Act → World → Prop} (s x : Operand) (ho : o.op = .call { callee := .builtin .append, args := #[s, x], argTypes := #[39, 39] })
    {A0 : Option Addr} {n0 c0 g : Nat} {p : List UInt8} (hs : a.eval s = .slice (some ⟨g, 0, none⟩) 1 1) (hb : w.heap[g]? = some (.cells #[.slice A0 n0 c0] 22 (0, 0))) (hp : Rd w w.heap.size A0 p) (hn0 : p.length = n0) (hc0 : n0 ≤ c0)
    {A2 : Option Addr} {n c2 : Nat} {ls : List (List UInt8)} (hx : a.eval x = .slice A2 n c2) (h2 : RdL w w.heap.size A2 ls) (hn : ls.length = n) (hl : n ≤ 100000)
    (hk : ∀ A' c' w', RdL w' w'.heap.size A' (p :: ls) → Grown w w' → K (a.put o.dst (.slice A' (n + 1) c')) w') : o.wp Tryd.prog a w K Q := by
  obtain ⟨A', c', w', hrun, h3, h4⟩ := run_appLs hb hp hn0 hc0 c2 h2 hn hl o.type
  unfold Oper.wp execOp
  simp only [ho, resolve, invoke, builtin, Sem.run_bind, Sem.run_pure, Result.andThen_ok, List.map_toArray, List.map_cons, List.map_nil, hs, hx, hrun]
  exact hk A' c' w' h3 h4
theorem wpList_appLs {w : World} {ops : Array Oper} {rest : List Oper} {o : Oper} {a : Act} {Q : Exit → Act → World → Prop} (hgd : o.guard = none) (s x : Operand) (ho : o.op = .call { callee := .builtin .append, args := #[s, x], argTypes := #[39, 39] })
    {A0 : Option Addr} {n0 c0 g : Nat} {p : List UInt8} (hs : a.eval s = .slice (some ⟨g, 0, none⟩) 1 1) (hb : w.heap[g]? = some (.cells #[.slice A0 n0 c0] 22 (0, 0))) (hp : Rd w w.heap.size A0 p) (hn0 : p.length = n0) (hc0 : n0 ≤ c0)
    {A2 : Option Addr} {n c2 : Nat} {ls : List (List UInt8)} (hx : a.eval x = .slice A2 n c2) (h2 : RdL w w.heap.size A2 ls) (hn : ls.length = n) (hl : n ≤ 100000)
    (hk : ∀ A' c' w', RdL w' w'.heap.size A' (p :: ls) → Grown w w' → wpList Tryd.prog ops Q rest (a.put o.dst (.slice A' (n + 1) c')) w') : wpList Tryd.prog ops Q (o :: rest) a w :=
  wpList_plain hgd fun _ hK => wp_appLs s x ho hs hb hp hn0 hc0 hx h2 hn hl fun A' c' w' h3 h4 => hK _ _ (hk A' c' w' h3 h4)
end Go.Proofs.YtbofikghcoalbaaDoor
