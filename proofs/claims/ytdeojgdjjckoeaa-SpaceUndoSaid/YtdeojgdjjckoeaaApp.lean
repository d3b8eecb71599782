/-
  Byte slices that a call itself owns, and what append does to them.
-/
import Derived.Test.YtdeojgdjjckoeaaBase
import Derived.Deep.RegionHeld3
import Derived.Deep.RegionLaw
namespace Go.Proofs.Ytdeojgdjjckoeaa
open Go.RowKit
set_option linter.unusedVariables false

/-- The slice at A owns the bytes l, in a block from 'base' on. -/
def Own (w : World) (base : Nat) (A : Option Addr) (c : Nat) (l : List UInt8) : Prop := w.ownsRow base 5 1 (.slice A l.length c) l.length (bvs l)
section
variable {w w' : World} {base : Nat} {A : Option Addr} {c : Nat} {l : List UInt8}
theorem Own.nil (w : World) (base : Nat) : Own w base none 0 [] := World.ownsRow_nil w base 5 1
theorem Own.form (h : Own w base A c l) : (A = none ∧ l = [] ∧ c = 0) ∨ ∃ g cur, A = some ⟨g, 0, none⟩ ∧ base ≤ g ∧ w.heap[g]? = some (.cells cur 5 (0, 0)) ∧ l.length ≤ c ∧ cur.toList.take l.length = bvs l := by
  rcases h.2 with ⟨h1, h2⟩ | ⟨g, cap, cur, h1, h2, h3, h4, h5, h6, h7⟩
  · simp only [Value.slice.injEq] at h1
    exact .inl ⟨h1.1, List.eq_nil_of_length_eq_zero h2, h1.2.2⟩
  · simp only [Value.slice.injEq] at h1
    obtain ⟨rfl, _, rfl⟩ := h1
    exact .inr ⟨g, cur, rfl, h2, h3, h4, by simpa using h7⟩
theorem Own.le (h : Own w base A c l) : l.length ≤ c := by
  rcases h.form with ⟨_, rfl, _⟩ | ⟨_, _, _, _, _, h, _⟩
  · simp
  · exact h
theorem Own.rd (h : Own w base A c l) : Rd w w.heap.size A l := by
  rcases h.form with ⟨_, rfl, _⟩ | ⟨g, cur, rfl, _, hg, _, ht⟩
  · exact .inl rfl
  · have hlt : g < w.heap.size := by
      rcases Nat.lt_or_ge g w.heap.size with h1 | h1
      · exact h1
      · rw [Array.getElem?_eq_none h1] at hg; cases hg
    refine .inr ⟨g, 0, rfl, hlt, fun j hj => ?_⟩
    rw [Nat.zero_add, cell_of_row w g j cur 5 (0, 0) hg]
    have : (cur.toList.take l.length)[j]? = (bvs l)[j]? := by rw [ht]
    rw [List.getElem?_take, if_pos hj] at this
    simpa [bvs, hj] using this
theorem Own.grow (h : Own w base A c l) (hb : Below w.heap.size w w') : Own w' base A c l := by
  refine ⟨h.1, ?_⟩
  rcases h.2 with h1 | ⟨g, cap, cur, h1, h2, h3, r⟩
  · exact .inl h1
  · refine .inr ⟨g, cap, cur, h1, h2, ?_, r⟩
    have hlt : g < w.heap.size := by
      rcases Nat.lt_or_ge g w.heap.size with h1 | h1
      · exact h1
      · rw [Array.getElem?_eq_none h1] at h3; cases h3
    rw [hb.block g hlt]; exact h3
theorem Own.less {base' : Nat} (h : Own w base A c l) (hb : base' ≤ base) : Own w base' A c l := by
  refine ⟨h.1, ?_⟩
  rcases h.2 with h1 | ⟨g, cap, cur, h1, h2, r⟩
  · exact .inl h1
  · exact .inr ⟨g, cap, cur, h1, by omega, r⟩
theorem Own.lit (w : World) (l : List UInt8) (hb : base ≤ w.heap.size) (hl : l.length ≤ 4294967296) :
    Own (w.alloc (.cells (bvs l).toArray 5)) base (some ⟨w.heap.size, 0, none⟩) l.length l := by
  have := World.ownsRow_lit (e := 5) (size := 1) w (bvs l).toArray l.length hb (by unfold maxLen; omega) (by simp [bvs])
  simpa [Own] using this
theorem Own.row {g : Nat} (h : Row w g l) (hb : base ≤ g) (hl : l.length ≤ 4294967296) : Own w base (some ⟨g, 0, none⟩) l.length l :=
  ⟨by simp [bvs], .inr ⟨g, l.length, _, rfl, hb, h, Nat.le_refl _, by unfold maxLen; omega, by simp [bvs], by rw [List.take_of_length_le (by simp [bvs])]⟩⟩
end

theorem run_app {w : World} {base : Nat} {A : Option Addr} {c : Nat} {l : List UInt8} (h : Own w base A c l) {B : Nat} {A2 : Option Addr} (c2 : Nat) {l2 : List UInt8} (h2 : Rd w B A2 l2)
    (hl : l.length + l2.length ≤ 4294967296) (hbase : base ≤ w.heap.size) (ty : TypeId) :
    ∃ A' c' w', (Builtin.append_ #[47, 47] ty #[.slice A l.length c, .slice A2 l2.length c2]).run Try.prog w = .ok (.slice A' (l ++ l2).length c') w' ∧ Own w' base A' c' (l ++ l2) ∧ Below base w w' := by
  obtain ⟨i0, hi, hz0, hz1, hz2⟩ := info_parts info5
  by_cases hn : A2 = none
  · subst hn
    have hl2 : l2 = [] := by
      rcases h2 with h2 | ⟨b, off, e, _⟩
      · exact h2
      · cases e
    subst hl2
    refine ⟨A, c, w, ?_, by simpa using h, Below.refl _ _⟩
    have h' : w.ownsRow base 5 1 (.slice A l.length c) l.length (bvs l) := h
    rcases h'.2 with ⟨h1, h3⟩ | ⟨g, cap, cur, h1, _, _, hnc, _⟩
    · simp only [Value.slice.injEq] at h1
      obtain ⟨rfl, _, rfl⟩ := h1
      have : l = [] := List.eq_nil_of_length_eq_zero h3
      subst this
      simp [Builtin.append_, run_underlying Try.underlying47, sizeOf, typeInfo, hi, Builtin.lenOf, Builtin.firstCells]
    · simp only [Value.slice.injEq] at h1
      obtain ⟨rfl, _, rfl⟩ := h1
      simp [Builtin.append_, run_underlying Try.underlying47, sizeOf, typeInfo, hi, Builtin.lenOf, Builtin.firstCells, hnc, storeCells]
  · obtain ⟨ad, rfl⟩ : ∃ ad, A2 = some ad := by cases A2 with | none => exact absurd rfl hn | some ad => exact ⟨ad, rfl⟩
    have hcells : ∀ j u, (bvs l2)[j]? = some u → w.cell? (ad.add j) = some u := by
      intro j u hu
      rcases h2 with rfl | ⟨b, off, e, hb, hc⟩
      · simp [bvs] at hu
      · simp only [Option.some.injEq] at e
        subst e
        have hj : j < l2.length := by
          have := (List.getElem?_eq_some_iff.1 hu).1
          simpa [bvs] using this
        have h3 := hc j hj
        simp [bvs, hj] at hu
        subst hu
        by_cases h0 : j = 0
        · subst h0; simpa [Addr.add] using h3
        · simpa [Addr.add, h0] using h3
    obtain ⟨v', w', hrun, hown', hg, _⟩ := run_append_own (P := Try.prog) w base 47 ty 5 i0 _ 1 1 Try.underlying47 hi hz0 hz1 hz2 rfl (by omega) _ _ _ h ad l2.length c2 (bvs l2) (by simp [bvs]) hcells (bvs_one l2)
      (by unfold maxLen; omega) (by omega) hbase
    have hv : ∃ A' c', v' = .slice A' (l ++ l2).length c' := by
      rcases hown'.2 with ⟨h1, h3⟩ | ⟨g, cap, cur, h1, _⟩
      · exact ⟨none, 0, by rw [h1]; simp at h3; simp [h3]⟩
      · exact ⟨some ⟨g, 0, none⟩, cap, by rw [h1]; simp⟩
    obtain ⟨A', c', rfl⟩ := hv
    refine ⟨A', c', w', hrun, ?_, ?_⟩
    · unfold Own
      have e1 : (l ++ l2).length = l.length + l2.length := by simp
      have e2 : bvs (l ++ l2) = bvs l ++ bvs l2 := by simp [bvs]
      rw [e2]
      rw [e1] at hown' ⊢
      exact hown'
    · refine (Below.refl _ _).grown hg hbase fun k hk => ?_
      rcases h.form with ⟨rfl, _⟩ | ⟨g, cur, rfl, hgb, _⟩
      · simp [Value.ownBlock] at hk
      · simp [Value.ownBlock] at hk; omega

/-- append onto an empty slice without room ('[]byte{}'): all that was there is as it was. -/
theorem run_app0 {w : World} (ad : Addr) {B : Nat} {A2 : Option Addr} (c2 : Nat) {l2 : List UInt8} (h2 : Rd w B A2 l2) (hl : l2.length ≤ 4294967296) (ty : TypeId) :
    ∃ A' c' w', (Builtin.append_ #[47, 47] ty #[.slice (some ad) 0 0, .slice A2 l2.length c2]).run Try.prog w = .ok (.slice A' l2.length c') w' ∧ Rd w' w'.heap.size A' l2 ∧ l2.length ≤ c' ∧ Below w.heap.size w w' := by
  obtain ⟨i0, hi, hz0, hz1, hz2⟩ := info_parts info5
  rcases h2 with rfl | ⟨b, off, rfl, hb, hc⟩
  · refine ⟨some ad, 0, w, ?_, .inl rfl, by simp, Below.refl _ _⟩
    cases A2 <;> simp [Builtin.append_, run_underlying Try.underlying47, sizeOf, typeInfo, hi, Builtin.lenOf, Builtin.firstCells, loadCells, loadCellsFrom, storeCells]
  · by_cases h0 : l2 = []
    · subst h0
      refine ⟨some ad, 0, w, ?_, .inl rfl, by simp, Below.refl _ _⟩
      simp [Builtin.append_, run_underlying Try.underlying47, sizeOf, typeInfo, hi, Builtin.lenOf, Builtin.firstCells, loadCells, loadCellsFrom, storeCells]
    · have hpos : 0 < l2.length := List.length_pos_iff.2 h0
      have hcells : ∀ j u, (bvs l2)[j]? = some u → w.cell? ((⟨b, off, none⟩ : Addr).add j) = some u := by
        intro j u hu
        have hj : j < l2.length := by
          have := (List.getElem?_eq_some_iff.1 hu).1
          simpa [bvs] using this
        have h3 := hc j hj
        simp [bvs, hj] at hu
        subst hu
        by_cases h0 : j = 0
        · subst h0; simpa [Addr.add] using h3
        · simpa [Addr.add, h0] using h3
      obtain ⟨v', w', hrun, hown', hg⟩ := run_append_arg_grows (P := Try.prog) w 47 ty 5 i0 _ 1 1 Try.underlying47 hi hz0 hz1 hz2 rfl (by omega) ad 0 0 [] (by simp) (by simp) ⟨b, off, none⟩ l2.length c2 (bvs l2) (by simp [bvs]) hcells
        (by omega) (by unfold maxLen; omega) (by omega)
      simp only [Nat.zero_add, List.nil_append] at hown'
      have hv : ∃ A' c', v' = .slice A' l2.length c' := by
        rcases hown'.2 with ⟨h1, h3⟩ | ⟨g, cap, cur, h1, _⟩
        · omega
        · exact ⟨some ⟨g, 0, none⟩, cap, by rw [h1]⟩
      obtain ⟨A', c', rfl⟩ := hv
      have ho : Own w' w.heap.size A' c' l2 := hown'
      exact ⟨A', c', w', hrun, ho.rd, ho.le, ⟨hg.os, hg.tape, hg.output, hg.size, fun k hk => hg.block k hk (by simp)⟩⟩

theorem wp_app0 {w : World} {o : Oper} {a : Act} {K : Act → World → Prop} {Q : Exit → Act → World → Prop} (s x : Operand) (ho : o.op = .call { callee := .builtin .append, args := #[s, x], argTypes := #[47, 47] })
    {ad : Addr} (hs : a.eval s = .slice (some ad) 0 0) {B : Nat} {A2 : Option Addr} {n c2 : Nat} {l2 : List UInt8} (hx : a.eval x = .slice A2 n c2) (hn : l2.length = n) (h2 : Rd w B A2 l2) (hl : n ≤ 4294967296)
    (hk : ∀ A' c' w', Rd w' w'.heap.size A' l2 → n ≤ c' → Below w.heap.size w w' → K (a.put o.dst (.slice A' n c')) w') : o.wp Try.prog a w K Q := by
  subst hn
  obtain ⟨A', c', w', hrun, h3, h4, h5⟩ := run_app0 ad c2 h2 hl o.type
  unfold Oper.wp execOp
  simp only [ho, resolve, invoke, builtin, Sem.run_bind, Sem.run_pure, Result.andThen_ok, List.map_toArray, List.map_cons, List.map_nil, hs, hx, hrun]
  exact hk A' c' w' h3 h4 h5
theorem wpList_app0 {w : World} {ops : Array Oper} {rest : List Oper} {o : Oper} {a : Act} {Q : Exit → Act → World → Prop} (hgd : o.guard = none) (s x : Operand) (ho : o.op = .call { callee := .builtin .append, args := #[s, x], argTypes := #[47, 47] })
    {ad : Addr} (hs : a.eval s = .slice (some ad) 0 0) {B : Nat} {A2 : Option Addr} {n c2 : Nat} {l2 : List UInt8} (hx : a.eval x = .slice A2 n c2) (hn : l2.length = n) (h2 : Rd w B A2 l2) (hl : n ≤ 4294967296)
    (hk : ∀ A' c' w', Rd w' w'.heap.size A' l2 → n ≤ c' → Below w.heap.size w w' → wpList Try.prog ops Q rest (a.put o.dst (.slice A' n c')) w') : wpList Try.prog ops Q (o :: rest) a w :=
  wpList_plain hgd fun _ hK => wp_app0 s x ho hs hx hn h2 hl fun A' c' w' h3 h4 h5 => hK _ _ (hk A' c' w' h3 h4 h5)

section
variable {w : World} {ops : Array Oper} {rest : List Oper} {o : Oper} {a : Act}
theorem wp_app {K : Act → World → Prop} {Q : Exit → Act → World → Prop} (s x : Operand) (ho : o.op = .call { callee := .builtin .append, args := #[s, x], argTypes := #[47, 47] })
    {base : Nat} {A : Option Addr} {c : Nat} {l : List UInt8} (hs : a.eval s = .slice A l.length c) (h : Own w base A c l) {B : Nat} {A2 : Option Addr} {c2 : Nat} {l2 : List UInt8} (hx : a.eval x = .slice A2 l2.length c2) (h2 : Rd w B A2 l2)
    (hl : l.length + l2.length ≤ 4294967296) (hbase : base ≤ w.heap.size) (r : List UInt8) (hr : l ++ l2 = r)
    (hk : ∀ A' c' w', Own w' base A' c' r → Below base w w' → K (a.put o.dst (.slice A' r.length c')) w') : o.wp Try.prog a w K Q := by
  subst hr
  obtain ⟨A', c', w', hrun, h3, h4⟩ := run_app h c2 h2 hl hbase o.type
  unfold Oper.wp execOp
  simp only [ho, resolve, invoke, builtin, Sem.run_bind, Sem.run_pure, Result.andThen_ok, List.map_toArray, List.map_cons, List.map_nil, hs, hx, hrun]
  exact hk A' c' w' h3 h4
theorem wpList_app {Q : Exit → Act → World → Prop} (hgd : o.guard = none) (s x : Operand) (ho : o.op = .call { callee := .builtin .append, args := #[s, x], argTypes := #[47, 47] })
    {base : Nat} {A : Option Addr} {c : Nat} {l : List UInt8} (hs : a.eval s = .slice A l.length c) (h : Own w base A c l) {B : Nat} {A2 : Option Addr} {c2 : Nat} {l2 : List UInt8} (hx : a.eval x = .slice A2 l2.length c2) (h2 : Rd w B A2 l2)
    (hl : l.length + l2.length ≤ 4294967296) (hbase : base ≤ w.heap.size) (r : List UInt8) (hr : l ++ l2 = r)
    (hk : ∀ A' c' w', Own w' base A' c' r → Below base w w' → wpList Try.prog ops Q rest (a.put o.dst (.slice A' r.length c')) w') : wpList Try.prog ops Q (o :: rest) a w :=
  wpList_plain hgd fun _ hK => wp_app s x ho hs h hx h2 hl hbase r hr fun A' c' w' h3 h4 => hK _ _ (hk A' c' w' h3 h4)
theorem step_app {K : Act → World → Prop} {Q : Exit → Act → World → Prop} {E : Prop} (hgd : o.guard = none) (s x : Operand) (ho : o.op = .call { callee := .builtin .append, args := #[s, x], argTypes := #[47, 47] })
    {base : Nat} {A : Option Addr} {c : Nat} {l : List UInt8} (hs : a.eval s = .slice A l.length c) (h : Own w base A c l) {B : Nat} {A2 : Option Addr} {c2 : Nat} {l2 : List UInt8} (hx : a.eval x = .slice A2 l2.length c2) (h2 : Rd w B A2 l2)
    (hl : l.length + l2.length ≤ 4294967296) (hbase : base ≤ w.heap.size) (r : List UInt8) (hr : l ++ l2 = r)
    (hk : ∀ A' c' w', Own w' base A' c' r → Below base w w' → K (a.put o.dst (.slice A' r.length c')) w') :
    if Region.wanted o (yielded ops a.tmps) = true then Oper.wp Try.prog o a w K Q else E := by
  rw [if_pos (by simp [Region.wanted, hgd])]
  exact wp_app s x ho hs h hx h2 hl hbase r hr hk
end

/-- What a call that makes bytes leaves: the slice's address and capacity, its bytes, that they are new, and that all older memory is as it was. -/
def Makes (w : World) (l : List UInt8) (e : Ending) (w' : World) : Prop := ∃ A c, e = .returned (.slice A l.length c) ∧ Own w' w.heap.size A c l ∧ Below w.heap.size w w'

theorem lt_of_heap {w : World} {g : Nat} {o : Obj} (h : w.heap[g]? = some o) : g < w.heap.size := by
  rcases Nat.lt_or_ge g w.heap.size with h1 | h1
  · exact h1
  · rw [Array.getElem?_eq_none h1] at h; cases h

theorem below_drewN {B : Nat} {a w : World} (h : Below B a w) (n : Nat) : Below B a (w.drewN n) := ⟨h.os, h.tape, h.output, h.size, h.block⟩

def Says (w : World) (b : Bool) (e : Ending) (w' : World) : Prop := e = .returned (.bool b) ∧ Below w.heap.size w w'

theorem Rd.drew {w : World} {B : Nat} {A : Option Addr} {l : List UInt8} (h : Rd w B A l) : Rd w.drew B A l := h
theorem Own.drew {w : World} {B c : Nat} {A : Option Addr} {l : List UInt8} (h : Own w B A c l) : Own w.drew B A c l := h
theorem alloc_below (w : World) (o : Obj) : Below w.heap.size w (w.alloc o) := (Below.refl _ _).alloc (Nat.le_refl _) _

end Go.Proofs.Ytdeojgdjjckoeaa
