/-
  append(b, make([]byte, z)...), b owned: z zeros behind its bytes.
-/
import Derived.Test.YtbjfjncpnnlklaaDoorApp
import Derived.Test.YtbjfjncpnnlklaaDoorGrow
import Derived.Lib.AppendZerosOnto
namespace Go.Proofs.YtbjfjncpnnlklaaDoor
open Go.RowKit
set_option linter.unusedVariables false
set_option linter.unusedSimpArgs false

theorem zeros_cells (z : Nat) : (Builtin.zeroCells #[Value.int .u8 0] z).toList = bvs (List.replicate z 0) := by
  rw [bvs, List.map_replicate, List.eq_replicate_iff]
  refine ⟨by simp [Builtin.zeroCells], fun b hb => ?_⟩
  simp only [Builtin.zeroCells, Array.toList_map, List.mem_map] at hb
  obtain ⟨i, _, rfl⟩ := hb
  simp [Nat.mod_one, bv]

theorem rd_row_of {w : World} {g : Nat} {cs : Array Value} {t : TypeId} {fr : Nat × Nat} {l : List UInt8} (h : w.heap[g]? = some (.cells cs t fr)) (ht : cs.toList.take l.length = bvs l) : Rd w w.heap.size (some ⟨g, 0, none⟩) l := by
  refine .inr ⟨g, 0, rfl, lt_of_heap h, fun j hj => ?_⟩
  rw [Nat.zero_add, cell_of_row w g j cs t fr h]
  have : (cs.toList.take l.length)[j]? = (bvs l)[j]? := by rw [ht]
  rw [List.getElem?_take, if_pos hj] at this
  simpa [bvs, hj] using this

theorem run_appZ {w : World} {base : Nat} {A : Option Addr} {c : Nat} {l : List UInt8} (h : Own w base A c l) (z : Nat) (hl : l.length + z ≤ 1000000) (hbase : base ≤ w.heap.size) (ty : TypeId) :
    ∃ A' c' w', (Builtin.append_ #[22, 3] ty #[.slice A l.length c, .int .i64 (z : Int)]).run Tryd.prog w = .ok (.slice A' (l.length + z) c') w' ∧ Rd w' w'.heap.size A' (l ++ List.replicate z 0) ∧ l.length + z ≤ c' ∧ Below base w w' := by
  obtain ⟨i0, hi, hz0, hz1, hz2⟩ := info_parts info5
  have hw : IntKind.i64.wrap (z : Int) = z := by rw [IntKind.wrap_i64]; omega
  have hneg : ¬ ((z : Int) < 0) := by omega
  have h48i : ¬ (281474976710656 < (z : Int) * (i0.bytes : Int)) := by rw [hz2]; omega
  have hle := h.le
  by_cases h0 : z = 0
  · subst h0
    have hw0 : IntKind.i64.wrap 0 = 0 := rfl
    refine ⟨A, c, w, ?_, by simpa using h.rd, by simpa using hle, Below.refl _ _⟩
    cases A <;> simp [Builtin.append_, run_underlying Tryd.underlying22, run_underlying Tryd.underlying3, sizeOf, typeInfo, hi, asInt, asIntOf, hw0, hle, storeCells]
  · have hns : ¬ (z * i0.size = 0) := Nat.mul_ne_zero h0 (by rw [hz1]; omega)
    by_cases hroom : l.length + z ≤ c
    · rcases h.form with ⟨rfl, rfl, rfl⟩ | ⟨g, cur, rfl, hgb, hheap, _, htake⟩
      · simp at hroom; omega
      · have hcs : cur.size = c := by
          rcases h.2 with ⟨h1, _⟩ | ⟨g', cap', cur', h1, _, h3, _, _, h6, _⟩
          · simp at h1
          · simp only [Value.slice.injEq, Option.some.injEq, Addr.mk.injEq, and_true, true_and] at h1
            obtain ⟨rfl, rfl⟩ := h1
            rw [hheap] at h3
            simp only [Option.some.injEq, Obj.cells.injEq, true_and, and_true] at h3
            subst h3
            simpa using h6
        have hst := run_storeCells_at Tryd.prog g (l.length * i0.size) 5 (bvs (List.replicate z 0)) 0 cur w hheap (by rw [hz1]; simp [bvs]; omega) (bvs_one _)
        simp only [Nat.add_zero] at hst
        refine ⟨some ⟨g, 0, none⟩, c, w.setRow g (cur.toList.take (l.length * i0.size) ++ bvs (List.replicate z 0) ++ cur.toList.drop (l.length * i0.size + (bvs (List.replicate z 0)).length)).toArray, ?_, ?_, hroom, ?_⟩
        rotate_left
        · have hh := setRow_heap w g cur (cur.toList.take (l.length * i0.size) ++ bvs (List.replicate z 0) ++ cur.toList.drop (l.length * i0.size + (bvs (List.replicate z 0)).length)).toArray 5 _ hheap
          refine rd_row_of hh ?_
          rw [hz1, Nat.mul_one, htake]
          have e : (l ++ List.replicate z (0 : UInt8)).length = (bvs l ++ bvs (List.replicate z 0)).length := by simp [bvs]
          rw [e, List.take_left]
          simp [bvs]
        · exact ⟨rfl, rfl, rfl, by simp [World.setRow], fun k hk => setRow_other w g k _ (by omega)⟩
        · simp [Builtin.append_, run_underlying Tryd.underlying22, run_underlying Tryd.underlying3, sizeOf, typeInfo, zeroValue, hi, hz0, asInt, asIntOf, hw, hneg, hns, h48i, hroom, Addr.add_lit, Value.cells, zeros_cells, hst]
    · have hold : ∃ olds : List Value, olds = bvs l ∧ (Builtin.firstCells i0.size l.length (.slice A l.length c)).run Tryd.prog w.drew = .ok olds.toArray w.drew := by
        refine ⟨_, rfl, ?_⟩
        rcases h.form with ⟨rfl, rfl, rfl⟩ | ⟨g, cur, rfl, hgb, hheap, _, htake⟩
        · simp [Builtin.firstCells, bvs]
        · exact run_firstCells_some (P := Tryd.prog) w.drew i0.size l.length ⟨g, 0, none⟩ l.length c (bvs l) (by rw [hz1]; simp [bvs]) (World.ownsRow.cells h (g := g) rfl)
      obtain ⟨olds, rfl, hold⟩ := hold
      have hr := Lib.run_append_grow_zeros (P := Tryd.prog) w 22 3 ty 5 i0 _ .i64 .i64 Tryd.underlying22 Tryd.underlying3 hi hz0 A l.length c (bvs l) hold z (by omega) (by rw [hz1]; omega) (by omega) (by omega) (by rw [hz2]; omega) (growslice_fits (by omega) (by rw [hz2]; omega))
      have hge := grownCap_ge w (l.length + z) c 5
      refine ⟨_, _, _, hr, ?_, hge, ?_⟩
      · refine rd_row_of (heap_alloc_new w.drew _) ?_
        simp only [Array.toList_append, Value.cells]
        rw [zeros_cells, List.append_assoc]
        have e : (l ++ List.replicate z (0 : UInt8)).length = (bvs l ++ bvs (List.replicate z 0)).length := by simp [bvs]
        rw [e, ← List.append_assoc, List.take_left]
        simp [bvs]
      · exact ⟨rfl, rfl, rfl, by simp, fun k hk => heap_alloc_old w.drew _ (by show k < w.heap.size; omega)⟩

theorem wpList_appZ {w : World} {ops : Array Oper} {rest : List Oper} {o : Oper} {a : Act} {Q : Exit → Act → World → Prop} (hgd : o.guard = none) (s x : Operand) (ho : o.op = .call { callee := .builtin .append, args := #[s, x], argTypes := #[22, 3] })
    {base : Nat} {A : Option Addr} {n c : Nat} {l : List UInt8} (hs : a.eval s = .slice A n c) (hn : l.length = n) (h : Own w base A c l) {z : Nat} (hx : a.eval x = .int .i64 (z : Int)) (hl : n + z ≤ 1000000) (hbase : base ≤ w.heap.size)
    (hk : ∀ A' c' w', Rd w' w'.heap.size A' (l ++ List.replicate z 0) → n + z ≤ c' → Below base w w' → wpList Tryd.prog ops Q rest (a.put o.dst (.slice A' (n + z) c')) w') : wpList Tryd.prog ops Q (o :: rest) a w := by
  subst hn
  obtain ⟨A', c', w', hr, h1, h2, h3⟩ := run_appZ h z hl hbase o.type
  exact Lib.wpList_append_run w hgd s x 22 3 ho _ _ hs hx _ _ hr (hk A' c' w' h1 h2 h3)
end Go.Proofs.YtbjfjncpnnlklaaDoor
