/-
  What xts's walk wants: appends within the room there is; two results of which the second lies in a cell; an array cut whole.
-/
import Derived.Test.YtbgbfofghhiolaaXqA
import Derived.Test.YtbgbfofghhiolaaPdG
import Derived.Test.YtbgbfofghhiolaaXtR
import Derived.Test.YtbgbfofghhiolaaCut
import Derived.Test.YtbgbfofghhiolaaRdl
import Derived.Test.YtbgbfofghhiolaaOxr
import Derived.Test.YtbgbfofghhiolaaAps
import Derived.Laws.Cover3
namespace Go.Proofs.Ytbgbfofghhiolaa.S8
open Go.RowKit
open Go.Proofs.Ytbgbfofghhiolaa.S7 hiding intOf
set_option linter.unusedVariables false
set_option linter.unusedSimpArgs false

/-- An owned slice of bytes beside a block that changes. -/
theorem Own.but {w w' : World} {base g : Nat} {A : Option Addr} {c : Nat} {l : List UInt8} (h : Own w base A c l) (hg : w.grownBy w' (some g)) (hlt : g < base) : Own w' base A c l := by
  refine ⟨h.1, ?_⟩
  rcases h.2 with h1 | ⟨g1, cap, cur, h1, h2, h3, r⟩
  · exact .inl h1
  · refine .inr ⟨g1, cap, cur, h1, h2, ?_, r⟩
    rw [hg.block g1 (lt_of_heap h3) (by simp; omega)]
    exact h3
theorem OwnL.but {w w' : World} {base g : Nat} {A : Option Addr} {c : Nat} {ls : List (List UInt8)} (h : OwnL w base A c ls) (hg : w.grownBy w' (some g)) (hlt : g < base) : OwnL w' base A c ls := by
  obtain ⟨vs, h1, h2, h3⟩ := h
  refine ⟨vs, h1, ⟨h2.1, ?_⟩, fun j hj hj' => ?_⟩
  · rcases h2.2 with h4 | ⟨g1, cap, cur, h4, h5, h6, r⟩
    · exact .inl h4
    · refine .inr ⟨g1, cap, cur, h4, h5, ?_, r⟩
      rw [hg.block g1 (lt_of_heap h6) (by simp; omega)]
      exact h6
  · obtain ⟨A', c', e, ho⟩ := h3 j hj hj'
    exact ⟨A', c', e, Own.but ho hg hlt⟩
theorem OwnL.rdL {w : World} {base : Nat} {A : Option Addr} {c : Nat} {ls : List (List UInt8)} (h : OwnL w base A c ls) : RdL w w.heap.size A ls := by
  obtain ⟨vs, h1, h2, h3⟩ := h
  rcases h2.2 with ⟨h4, h5⟩ | ⟨g, cap, cur, h4, h5, h6, h7, h8, h9, h10⟩
  · exact .inl (List.eq_nil_of_length_eq_zero h5)
  · simp only [Value.slice.injEq] at h4
    obtain ⟨rfl, _, rfl⟩ := h4
    refine .inr ⟨g, 0, rfl, lt_of_heap h6, fun j hj => ?_⟩
    obtain ⟨A', c', e, ho⟩ := h3 j hj (by omega)
    refine ⟨A', c', ?_, ho.le, ho.rd⟩
    rw [Nat.zero_add, h2.cellAt j (by omega), List.getElem?_eq_getElem (by omega), e]
theorem mk0 (k : Nat) (hk : k ≤ 1000000) (w : World) :
    (Instr.makeSlice 22 (.int .i64 0) (.int .i64 (k : Int))).run Try.prog w = .ok (.slice (some ⟨w.heap.size, 0, none⟩) 0 k) (w.alloc (.cells (bvs (List.replicate k 0)).toArray 5)) := by
  obtain ⟨i0, hi, hz0, hz1, hz2⟩ := info_parts info5
  have hr := run_make (P := Try.prog) w 22 5 i0 _ Try.underlying22 hi hz0 .i64 .i64 0 (k : Int) (by omega) (by omega) (by rw [hz2]; omega) (by omega)
  simp only [Int.toNat_natCast, hz1, Nat.mul_one] at hr
  rw [hr]
  have : madeCells (Value.int IntKind.u8 0).cells k = (bvs (List.replicate k 0)).toArray := by
    apply Array.toList_inj.1
    show (madeCells #[_] k).toList = _
    rw [toList_madeCells_one]
    simp [bvs, bv]
  rw [this]
  rfl
theorem own_mk0 (w : World) (k : Nat) (hk : k ≤ 1000000) (base : Nat) (hb : base ≤ w.heap.size) : Own (w.alloc (.cells (bvs (List.replicate k 0)).toArray 5)) base (some ⟨w.heap.size, 0, none⟩) k [] :=
  ⟨by simp [bvs], .inr ⟨w.heap.size, k, _, rfl, hb, heap_alloc_new w _, Nat.zero_le _, by unfold maxLen; omega, by simp [bvs], by simp [bvs]⟩⟩
/-- append where there is room: the slice stays where it is, and all other blocks as they are. -/
theorem run_appR {w : World} {g : Nat} {c : Nat} {l : List UInt8} (h : Own w g (some ⟨g, 0, none⟩) c l) {B : Nat} {A2 : Addr} (c2 : Nat) {l2 : List UInt8} (h2 : Rd w B (some A2) l2)
    (hroom : l.length + l2.length ≤ c) (hl : l.length + l2.length ≤ 4294967296) (ty : TypeId) :
    ∃ w', (Builtin.append_ #[22, 22] ty #[.slice (some ⟨g, 0, none⟩) l.length c, .slice (some A2) l2.length c2]).run Try.prog w = .ok (.slice (some ⟨g, 0, none⟩) (l ++ l2).length c) w' ∧ Own w' g (some ⟨g, 0, none⟩) c (l ++ l2) ∧ w.grownBy w' (some g) := by
  obtain ⟨i0, hi, hz0, hz1, hz2⟩ := info_parts info5
  have hb : g ≤ w.heap.size := by
    rcases h.form with ⟨e, _⟩ | ⟨g', cur, e, _, hh, _⟩
    · cases e
    · simp only [Option.some.injEq, Addr.mk.injEq] at e
      have := lt_of_heap hh
      omega
  obtain ⟨A', c', w', hrun, hown, hg, _⟩ := run_appS h c2 h2 hl hb ty
  have hcells : ∀ j u, (bvs l2)[j]? = some u → w.cell? (A2.add j) = some u := by
    intro j u hu
    rcases h2 with rfl | ⟨b, off, e, hb, hc⟩
    · simp [bvs] at hu
    · simp only [Option.some.injEq] at e
      subst e
      have hj : j < l2.length := by
        have := (List.getElem?_eq_some_iff.1 hu).1
        simpa [bvs] using this
      have h3 := hc j hj
      simp [bvs, hj] at hu
      subst hu
      by_cases h0 : j = 0
      · subst h0; simpa [Addr.add] using h3
      · simpa [Addr.add, h0] using h3
  rcases h.2 with ⟨h1, h3⟩ | ⟨g1, cap, cur, h1, hbg, hheap, hnc, hcm, hcs, htake⟩
  · simp only [Value.slice.injEq] at h1
    cases h1.1
  · simp only [Value.slice.injEq, Option.some.injEq, Addr.mk.injEq] at h1
    obtain ⟨⟨rfl, _⟩, _, rfl⟩ := h1
    have hr := run_append_room (P := Try.prog) w 22 ty 5 i0 Try.underlying22 hi g l.length c cur hheap A2 l2.length c2 (bvs l2) (by rw [hz1]; simp [bvs]) hcells (bvs_one l2) hroom (by rw [hz1, hcs]; simp [bvs]; omega)
    have e := hrun.symm.trans hr
    injection e with e _
    simp only [Value.slice.injEq] at e
    obtain ⟨rfl, _, rfl⟩ := e
    refine ⟨w', hrun, hown, ?_⟩
    simpa [Value.ownBlock] using hg
section
variable {w : World} {o : Oper} {a : Act} {K : Act → World → Prop} {Q : Exit → Act → World → Prop}
theorem wp_appR (s x : Operand) (ho : o.op = .call { callee := .builtin .append, args := #[s, x], argTypes := #[22, 22] })
    {g n c n2 m : Nat} {l : List UInt8} (hn : l.length = n) (hs : a.eval s = .slice (some ⟨g, 0, none⟩) n c) (h : Own w g (some ⟨g, 0, none⟩) c l) {B : Nat} {A2 : Addr} {c2 : Nat} {l2 : List UInt8} (hn2 : l2.length = n2) (hx : a.eval x = .slice (some A2) n2 c2) (h2 : Rd w B (some A2) l2)
    (hm : m = n + n2) (hroom : m ≤ c) (hl : m ≤ 4294967296)
    (hk : ∀ w', Own w' g (some ⟨g, 0, none⟩) c (l ++ l2) → w.grownBy w' (some g) → K (a.put o.dst (.slice (some ⟨g, 0, none⟩) m c)) w') : o.wp Try.prog a w K Q := by
  subst hn hn2
  obtain ⟨w', hrun, h3, h4⟩ := run_appR h c2 h2 (by omega) (by omega) o.type
  unfold Oper.wp execOp
  simp only [ho, resolve, invoke, builtin, Sem.run_bind, Sem.run_pure, Result.andThen_ok, List.map_toArray, List.map_cons, List.map_nil, hs, hx, hrun]
  have := hk w' h3 h4
  rwa [hm, ← List.length_append] at this
end

theorem results_tmp_cell {fn : Func} {p u : Tmp} {ty : TypeId} (h : fn.results = #[.tmp u, .cell p ty]) (tmps : Array Value) (P : Program) (w : World) :
    (results fn tmps).run P w =
      ((asAddr (tmps.getD p undef)).run P w).andThen fun a w₁ => ((loadVar ty a).run P w₁).andThen fun v w₂ => .ok (.tuple #[tmps.getD u undef, v]) w₂ := by
  simp only [results, h]
  simp [Sem.run_bind, Result.andThen]
theorem ret_tmp_br {W : World} {fn : Func} {p u : Tmp} (hr : fn.results = #[.tmp u, .cell p 37]) {R : Ending → World → Prop} {tm : Array Value} {g : Nat} {L : List UInt8} (hp : tm.getD p undef = .pointer (some ⟨g, 0, none⟩)) (h : Br W g L) (hL : L.length = 16)
    {x : Value} (hu : tm.getD u undef = x) (hk : R (.returned (.tuple #[x, .agg (bvs L).toArray])) W) : bodyPost Try.prog fn R .ret { tmps := tm, defers := [] } W := by
  have hl := run_loadVar_row (P := Try.prog) W g 37 37 _ _ _ h u16B (by simp) (sz16 hL)
  refine bodyPost_ret (v := .tuple #[x, .agg (bvs L).toArray]) ?_ rfl hk
  rw [results_tmp_cell hr, hp, hu]
  simp [asAddr, hl, Result.andThen]
theorem cut_all (W : World) (g : Nat) : (Instr.sliceAt 37 (.pointer (some ⟨g, 0, none⟩)) none none none).run Try.prog W = .ok (.slice (some ⟨g, 0, none⟩) 16 16) W := by
  obtain ⟨i0, hi0, hz0, hz1, hz2⟩ := info_parts info5
  have hel : Try.prog.elem 37 = 5 := by kernel_rfl
  have hl : Try.prog.arrayLen 37 = 16 := by kernel_rfl
  rw [run_sliceAt_array_all (P := Try.prog) W 37 ⟨g, 0, none⟩ (by rw [hel, hl]; exact u16B), hel, hl]
  simp [sizeOf, typeInfo, hi0, hz1, slicedAt, Result.andThen, Addr.add_mid]

/-- A cipher beside a block that is stored anew. -/
theorem Ci.row {w : World} {G g : Nat} {W : List UInt8} (h : Ci w G W) (hne : G ≠ g) (cs : Array Value) : Ci (w.setRow g cs) G W :=
  ⟨⟨by have := h.1.1; simpa [World.setRow] using this, fun j hj => (cell_setRow_other w g cs ⟨G, j, none⟩ hne).trans (h.1.2 j hj)⟩, fun j hj => (cell_setRow_other w g cs ⟨G, 240 + j, none⟩ hne).trans (h.2.1 j hj), fun j hj => (cell_setRow_other w g cs ⟨G, 496 + j, none⟩ hne).trans (h.2.2 j hj)⟩
end Go.Proofs.Ytbgbfofghhiolaa.S8
