/-
  Slices of numbers that are bytes: what one reads as, one that a call itself owns, append, also beside another owned one.
-/
import Derived.Test.YtgfmdjagggnfbaaApp
import Derived.Test.YtgfmdjagggnfbaaGrow
import Derived.ArgAppend
import Derived.Laws.OwnMore
namespace Go.Proofs.Ytgfmdjagggnfbaa.S7.I
open Go.RowKit
set_option linter.unusedVariables false
set_option linter.unusedSimpArgs false

/-- A byte, as a cell holds it. -/
def bv (x : UInt8) : Value := .int .i64 (x.toNat : Int)
def bvs (l : List UInt8) : List Value := l.map bv
theorem bvs_length (l : List UInt8) : (bvs l).length = l.length := by simp [bvs]
theorem bvs_one (l : List UInt8) : ∀ u ∈ bvs l, u.oneCell' = true := by
  intro u hu
  simp only [bvs, List.mem_map] at hu
  obtain ⟨x, _, rfl⟩ := hu
  rfl

/-- The slice at A reads as the bytes l, and lies below block B. -/
def Rd (w : World) (B : Nat) (A : Option Addr) (l : List UInt8) : Prop :=
  l = [] ∨ ∃ b off, A = some ⟨b, off, none⟩ ∧ b < B ∧ ∀ j (h : j < l.length), w.cell? ⟨b, off + j, none⟩ = some (bv l[j])

section
variable {w w' : World} {B B' : Nat} {A : Option Addr} {l : List UInt8}
theorem Rd.nil (w : World) (B : Nat) (A : Option Addr) : Rd w B A [] := .inl rfl
theorem Rd.keep (h : Rd w B A l) (hk : ∀ p : Addr, p.block < B → w'.cell? p = w.cell? p) : Rd w' B A l := by
  rcases h with h | ⟨b, off, e, hb, hc⟩
  · exact .inl h
  · exact .inr ⟨b, off, e, hb, fun j hj => (hk _ hb).trans (hc j hj)⟩
theorem Rd.more (h : Rd w B A l) (hB : B ≤ B') : Rd w B' A l := by
  rcases h with h | ⟨b, off, e, hb, hc⟩
  · exact .inl h
  · exact .inr ⟨b, off, e, by omega, hc⟩
theorem Rd.below (h : Rd w B A l) (hb : Below B w w') : Rd w' B A l := h.keep fun _ hp => hb.cell hp
/-- Carried into a grown world, at that world's own size. -/
theorem Rd.grow (h : Rd w w.heap.size A l) (hb : Below w.heap.size w w') : Rd w' w'.heap.size A l := (h.below hb).more hb.size
theorem Rd.at_ (h : Rd w B A l) {k : Nat} (hk : k < l.length) : ∃ b off, A = some ⟨b, off, none⟩ ∧ b < B ∧ w.cell? ⟨b, off + k, none⟩ = some (.int .i64 (l[k].toNat : Int)) := by
  rcases h with rfl | ⟨b, off, e, hb, hc⟩
  · simp at hk
  · exact ⟨b, off, e, hb, hc k hk⟩
theorem Rd.take (h : Rd w B A l) (k : Nat) : Rd w B A (l.take k) := by
  rcases h with rfl | ⟨b, off, e, hb, hc⟩
  · exact .inl (by simp)
  · exact .inr ⟨b, off, e, hb, fun j hj => by simp at hj; rw [hc j (by omega)]; simp⟩
theorem Rd.cut (h : Rd w B A l) {k cap : Nat} (hc : l.length ≤ cap) : Rd w B (if cap = k then A else A.map (·.add k)) (l.drop k) := by
  by_cases hk : l.length ≤ k
  · exact .inl (by simpa using hk)
  · rw [if_neg (by omega)]
    rcases h with rfl | ⟨b, off, rfl, hb, hc⟩
    · exact .inl (by simp)
    · refine .inr ⟨b, off + k, ?_, hb, fun j hj => ?_⟩
      · by_cases h0 : k = 0 <;> simp [Addr.add, h0]
      · simp at hj
        have := hc (k + j) (by omega)
        rw [show off + k + j = off + (k + j) by omega, this]
        simp
end

theorem info5 : (Try.prog.info? 3).map (fun i => (i.zero, i.size, i.bytes)) = some (some (.int .i64 0), 1, 8) := by kernel_rfl

/-- Block g is just the bytes l, none frozen. -/
def Row (w : World) (g : Nat) (l : List UInt8) : Prop := w.heap[g]? = some (.cells (bvs l).toArray 3 (0, 0))
section
variable {w w' : World} {g : Nat} {l : List UInt8}
theorem Row.lt (h : Row w g l) : g < w.heap.size := by
  unfold Row at h
  rcases Nat.lt_or_ge g w.heap.size with h1 | h1
  · exact h1
  · rw [Array.getElem?_eq_none h1] at h; cases h
theorem Row.cell (h : Row w g l) (i : Nat) (hi : i < l.length) : w.cell? ⟨g, i, none⟩ = some (bv l[i]) := by
  rw [cell_of_row w g i _ 3 (0, 0) h]; simp [bvs, hi]
theorem Row.free (h : Row w g l) (i : Nat) : w.frozen? ⟨g, i, none⟩ = false := frozen_of_row w g i _ 3 h
theorem Row.below {B : Nat} (h : Row w g l) (hb : Below B w w') (hg : g < B) : Row w' g l := (hb.block g hg).trans h
theorem Row.grow (h : Row w g l) (hb : Below w.heap.size w w') : Row w' g l := h.below hb h.lt
theorem Row.alloc (h : Row w g l) (o : Obj) : Row (w.alloc o) g l := (Below.heap_alloc w o g h.lt).trans h
theorem Row.drew (h : Row w g l) : Row w.drew g l := h
theorem Row.far (h : Row w g l) {p : Addr} (hp : g ≠ p.block) (u : Value) : Row (w.setCell p u) g l := (Below.heap_setCell w p u g hp).trans h
theorem Row.put (h : Row w g l) (i : Nat) (x : UInt8) : Row (w.setCell ⟨g, i, none⟩ (bv x)) g (l.set i x) := by
  unfold Row at *
  rw [heap_setCell_same w g i _ 3 _ h]
  simp [bvs, List.map_set]
theorem Row.rd (h : Row w g l) {B : Nat} (hB : g < B) : Rd w B (some ⟨g, 0, none⟩) l :=
  .inr ⟨g, 0, rfl, hB, fun j hj => by rw [Nat.zero_add]; exact h.cell j hj⟩
theorem Row.new (w : World) (l : List UInt8) : Row (w.alloc (.cells (bvs l).toArray 3)) w.heap.size l := heap_alloc_new w _
end

/-- The slice at A owns the bytes l, in a block from 'base' on. -/
def Own (w : World) (base : Nat) (A : Option Addr) (c : Nat) (l : List UInt8) : Prop := w.ownsRow base 3 1 (.slice A l.length c) l.length (bvs l)
section
variable {w w' : World} {base : Nat} {A : Option Addr} {c : Nat} {l : List UInt8}
theorem Own.nil (w : World) (base : Nat) : Own w base none 0 [] := World.ownsRow_nil w base 3 1
theorem Own.form (h : Own w base A c l) : (A = none ∧ l = [] ∧ c = 0) ∨ ∃ g cur, A = some ⟨g, 0, none⟩ ∧ base ≤ g ∧ w.heap[g]? = some (.cells cur 3 (0, 0)) ∧ l.length ≤ c ∧ cur.toList.take l.length = bvs l := by
  rcases h.2 with ⟨h1, h2⟩ | ⟨g, cap, cur, h1, h2, h3, h4, h5, h6, h7⟩
  · simp only [Value.slice.injEq] at h1
    exact .inl ⟨h1.1, List.eq_nil_of_length_eq_zero h2, h1.2.2⟩
  · simp only [Value.slice.injEq] at h1
    obtain ⟨rfl, _, rfl⟩ := h1
    exact .inr ⟨g, cur, rfl, h2, h3, h4, by simpa using h7⟩
theorem Own.le (h : Own w base A c l) : l.length ≤ c := by
  rcases h.form with ⟨_, rfl, _⟩ | ⟨_, _, _, _, _, h, _⟩
  · simp
  · exact h
theorem Own.rd (h : Own w base A c l) : Rd w w.heap.size A l := by
  rcases h.form with ⟨_, rfl, _⟩ | ⟨g, cur, rfl, _, hg, _, ht⟩
  · exact .inl rfl
  · have hlt : g < w.heap.size := by
      rcases Nat.lt_or_ge g w.heap.size with h1 | h1
      · exact h1
      · rw [Array.getElem?_eq_none h1] at hg; cases hg
    refine .inr ⟨g, 0, rfl, hlt, fun j hj => ?_⟩
    rw [Nat.zero_add, cell_of_row w g j cur 3 (0, 0) hg]
    have : (cur.toList.take l.length)[j]? = (bvs l)[j]? := by rw [ht]
    rw [List.getElem?_take, if_pos hj] at this
    simpa [bvs, hj] using this
theorem Own.grow (h : Own w base A c l) (hb : Below w.heap.size w w') : Own w' base A c l := by
  refine ⟨h.1, ?_⟩
  rcases h.2 with h1 | ⟨g, cap, cur, h1, h2, h3, r⟩
  · exact .inl h1
  · refine .inr ⟨g, cap, cur, h1, h2, ?_, r⟩
    have hlt : g < w.heap.size := by
      rcases Nat.lt_or_ge g w.heap.size with h1 | h1
      · exact h1
      · rw [Array.getElem?_eq_none h1] at h3; cases h3
    rw [hb.block g hlt]; exact h3
theorem Own.less {base' : Nat} (h : Own w base A c l) (hb : base' ≤ base) : Own w base' A c l := by
  refine ⟨h.1, ?_⟩
  rcases h.2 with h1 | ⟨g, cap, cur, h1, h2, r⟩
  · exact .inl h1
  · exact .inr ⟨g, cap, cur, h1, by omega, r⟩
theorem Own.lit (w : World) (l : List UInt8) (hb : base ≤ w.heap.size) (hl : l.length ≤ 4294967296) :
    Own (w.alloc (.cells (bvs l).toArray 3)) base (some ⟨w.heap.size, 0, none⟩) l.length l := by
  have := World.ownsRow_lit (e := 3) (size := 1) w (bvs l).toArray l.length hb (by unfold maxLen; omega) (by simp [bvs])
  simpa [Own] using this
theorem Own.row {g : Nat} (h : Row w g l) (hb : base ≤ g) (hl : l.length ≤ 4294967296) : Own w base (some ⟨g, 0, none⟩) l.length l :=
  ⟨by simp [bvs], .inr ⟨g, l.length, _, rfl, hb, h, Nat.le_refl _, by unfold maxLen; omega, by simp [bvs], by rw [List.take_of_length_le (by simp [bvs])]⟩⟩
end

theorem run_app {w : World} {base : Nat} {A : Option Addr} {c : Nat} {l : List UInt8} (h : Own w base A c l) {B : Nat} {A2 : Option Addr} (c2 : Nat) {l2 : List UInt8} (h2 : Rd w B A2 l2)
    (hl : l.length + l2.length ≤ 4294967296) (hbase : base ≤ w.heap.size) (ty : TypeId) :
    ∃ A' c' w', (Builtin.append_ #[50, 50] ty #[.slice A l.length c, .slice A2 l2.length c2]).run Try.prog w = .ok (.slice A' (l ++ l2).length c') w' ∧ Own w' base A' c' (l ++ l2) ∧ Below base w w' := by
  obtain ⟨i0, hi, hz0, hz1, hz2⟩ := info_parts info5
  by_cases hn : A2 = none
  · subst hn
    have hl2 : l2 = [] := by
      rcases h2 with h2 | ⟨b, off, e, _⟩
      · exact h2
      · cases e
    subst hl2
    refine ⟨A, c, w, ?_, by simpa using h, Below.refl _ _⟩
    have h' : w.ownsRow base 3 1 (.slice A l.length c) l.length (bvs l) := h
    rcases h'.2 with ⟨h1, h3⟩ | ⟨g, cap, cur, h1, _, _, hnc, _⟩
    · simp only [Value.slice.injEq] at h1
      obtain ⟨rfl, _, rfl⟩ := h1
      have : l = [] := List.eq_nil_of_length_eq_zero h3
      subst this
      simp [Builtin.append_, run_underlying Try.underlying50, sizeOf, typeInfo, hi, Builtin.lenOf, Builtin.firstCells]
    · simp only [Value.slice.injEq] at h1
      obtain ⟨rfl, _, rfl⟩ := h1
      simp [Builtin.append_, run_underlying Try.underlying50, sizeOf, typeInfo, hi, Builtin.lenOf, Builtin.firstCells, hnc, storeCells]
  · obtain ⟨ad, rfl⟩ : ∃ ad, A2 = some ad := by cases A2 with | none => exact absurd rfl hn | some ad => exact ⟨ad, rfl⟩
    have hcells : ∀ j u, (bvs l2)[j]? = some u → w.cell? (ad.add j) = some u := by
      intro j u hu
      rcases h2 with rfl | ⟨b, off, e, hb, hc⟩
      · simp [bvs] at hu
      · simp only [Option.some.injEq] at e
        subst e
        have hj : j < l2.length := by
          have := (List.getElem?_eq_some_iff.1 hu).1
          simpa [bvs] using this
        have h3 := hc j hj
        simp [bvs, hj] at hu
        subst hu
        by_cases h0 : j = 0
        · subst h0; simpa [Addr.add] using h3
        · simpa [Addr.add, h0] using h3
    obtain ⟨v', w', hrun, hown', hg, _⟩ := run_append_own (P := Try.prog) w base 50 ty 3 i0 _ 1 8 Try.underlying50 hi hz0 hz1 hz2 rfl (by omega) _ _ _ h ad l2.length c2 (bvs l2) (by simp [bvs]) hcells (bvs_one l2)
      (by unfold maxLen; omega) (by omega) hbase
    have hv : ∃ A' c', v' = .slice A' (l ++ l2).length c' := by
      rcases hown'.2 with ⟨h1, h3⟩ | ⟨g, cap, cur, h1, _⟩
      · exact ⟨none, 0, by rw [h1]; simp at h3; simp [h3]⟩
      · exact ⟨some ⟨g, 0, none⟩, cap, by rw [h1]; simp⟩
    obtain ⟨A', c', rfl⟩ := hv
    refine ⟨A', c', w', hrun, ?_, ?_⟩
    · unfold Own
      have e1 : (l ++ l2).length = l.length + l2.length := by simp
      have e2 : bvs (l ++ l2) = bvs l ++ bvs l2 := by simp [bvs]
      rw [e2]
      rw [e1] at hown' ⊢
      exact hown'
    · refine (Below.refl _ _).grown hg hbase fun k hk => ?_
      rcases h.form with ⟨rfl, _⟩ | ⟨g, cur, rfl, hgb, _⟩
      · simp [Value.ownBlock] at hk
      · simp [Value.ownBlock] at hk; omega

section
variable {w : World} {ops : Array Oper} {rest : List Oper} {o : Oper} {a : Act}
theorem wp_app {K : Act → World → Prop} {Q : Exit → Act → World → Prop} (s x : Operand) (ho : o.op = .call { callee := .builtin .append, args := #[s, x], argTypes := #[50, 50] })
    {base : Nat} {A : Option Addr} {c : Nat} {l : List UInt8} (hs : a.eval s = .slice A l.length c) (h : Own w base A c l) {B : Nat} {A2 : Option Addr} {c2 : Nat} {l2 : List UInt8} (hx : a.eval x = .slice A2 l2.length c2) (h2 : Rd w B A2 l2)
    (hl : l.length + l2.length ≤ 4294967296) (hbase : base ≤ w.heap.size) (r : List UInt8) (hr : l ++ l2 = r)
    (hk : ∀ A' c' w', Own w' base A' c' r → Below base w w' → K (a.put o.dst (.slice A' r.length c')) w') : o.wp Try.prog a w K Q := by
  subst hr
  obtain ⟨A', c', w', hrun, h3, h4⟩ := run_app h c2 h2 hl hbase o.type
  unfold Oper.wp execOp
  simp only [ho, resolve, invoke, builtin, Sem.run_bind, Sem.run_pure, Result.andThen_ok, List.map_toArray, List.map_cons, List.map_nil, hs, hx, hrun]
  exact hk A' c' w' h3 h4
theorem wpList_app {Q : Exit → Act → World → Prop} (hgd : o.guard = none) (s x : Operand) (ho : o.op = .call { callee := .builtin .append, args := #[s, x], argTypes := #[50, 50] })
    {base : Nat} {A : Option Addr} {c : Nat} {l : List UInt8} (hs : a.eval s = .slice A l.length c) (h : Own w base A c l) {B : Nat} {A2 : Option Addr} {c2 : Nat} {l2 : List UInt8} (hx : a.eval x = .slice A2 l2.length c2) (h2 : Rd w B A2 l2)
    (hl : l.length + l2.length ≤ 4294967296) (hbase : base ≤ w.heap.size) (r : List UInt8) (hr : l ++ l2 = r)
    (hk : ∀ A' c' w', Own w' base A' c' r → Below base w w' → wpList Try.prog ops Q rest (a.put o.dst (.slice A' r.length c')) w') : wpList Try.prog ops Q (o :: rest) a w :=
  wpList_plain hgd fun _ hK => wp_app s x ho hs h hx h2 hl hbase r hr fun A' c' w' h3 h4 => hK _ _ (hk A' c' w' h3 h4)
theorem step_app {K : Act → World → Prop} {Q : Exit → Act → World → Prop} {E : Prop} (hgd : o.guard = none) (s x : Operand) (ho : o.op = .call { callee := .builtin .append, args := #[s, x], argTypes := #[50, 50] })
    {base : Nat} {A : Option Addr} {c : Nat} {l : List UInt8} (hs : a.eval s = .slice A l.length c) (h : Own w base A c l) {B : Nat} {A2 : Option Addr} {c2 : Nat} {l2 : List UInt8} (hx : a.eval x = .slice A2 l2.length c2) (h2 : Rd w B A2 l2)
    (hl : l.length + l2.length ≤ 4294967296) (hbase : base ≤ w.heap.size) (r : List UInt8) (hr : l ++ l2 = r)
    (hk : ∀ A' c' w', Own w' base A' c' r → Below base w w' → K (a.put o.dst (.slice A' r.length c')) w') :
    if Region.wanted o (yielded ops a.tmps) = true then Oper.wp Try.prog o a w K Q else E := by
  rw [if_pos (by simp [Region.wanted, hgd])]
  exact wp_app s x ho hs h hx h2 hl hbase r hr hk
end

/-- What a call that makes bytes leaves: the slice's address and capacity, its bytes, that they are new, and that all older memory is as it was. -/
def Makes (w : World) (l : List UInt8) (e : Ending) (w' : World) : Prop := ∃ A c, e = .returned (.slice A l.length c) ∧ Own w' w.heap.size A c l ∧ Below w.heap.size w w'



/-- Two slices share no block. -/
def Apart (A B : Option Addr) : Prop := ∀ x y, A = some x → B = some y → x.block ≠ y.block
theorem Apart.symm {A B : Option Addr} (h : Apart A B) : Apart B A := fun x y hx hy e => h y x hy hx e.symm
/-- The block of A' is that of A, or one that was not there in w. -/
def Moved (w : World) (A A' : Option Addr) : Prop := A' = A ∨ ∃ x, A' = some x ∧ w.heap.size ≤ x.block

theorem run_appS {w : World} {base : Nat} {A : Option Addr} {c : Nat} {l : List UInt8} (h : Own w base A c l) {B : Nat} {A2 : Option Addr} (c2 : Nat) {l2 : List UInt8} (h2 : Rd w B A2 l2)
    (hl : l.length + l2.length ≤ 4294967296) (hbase : base ≤ w.heap.size) (ty : TypeId) :
    ∃ A' c' w', (Builtin.append_ #[50, 50] ty #[.slice A l.length c, .slice A2 l2.length c2]).run Try.prog w = .ok (.slice A' (l ++ l2).length c') w' ∧ Own w' base A' c' (l ++ l2) ∧ w.grownBy w' (Value.slice A l.length c).ownBlock ∧ Moved w A A' := by
  obtain ⟨i0, hi, hz0, hz1, hz2⟩ := info_parts info5
  by_cases hn : A2 = none
  · subst hn
    have hl2 : l2 = [] := by
      rcases h2 with h2 | ⟨b, off, e, _⟩
      · exact h2
      · cases e
    subst hl2
    refine ⟨A, c, w, ?_, by simpa using h, ⟨rfl, rfl, rfl, Nat.le_refl _, fun _ _ _ => rfl⟩, .inl rfl⟩
    have h' : w.ownsRow base 3 1 (.slice A l.length c) l.length (bvs l) := h
    rcases h'.2 with ⟨h1, h3⟩ | ⟨g, cap, cur, h1, _, _, hnc, _⟩
    · simp only [Value.slice.injEq] at h1
      obtain ⟨rfl, _, rfl⟩ := h1
      have : l = [] := List.eq_nil_of_length_eq_zero h3
      subst this
      simp [Builtin.append_, run_underlying Try.underlying50, sizeOf, typeInfo, hi, Builtin.lenOf, Builtin.firstCells]
    · simp only [Value.slice.injEq] at h1
      obtain ⟨rfl, _, rfl⟩ := h1
      simp [Builtin.append_, run_underlying Try.underlying50, sizeOf, typeInfo, hi, Builtin.lenOf, Builtin.firstCells, hnc, storeCells]
  · obtain ⟨ad, rfl⟩ : ∃ ad, A2 = some ad := by cases A2 with | none => exact absurd rfl hn | some ad => exact ⟨ad, rfl⟩
    have hcells : ∀ j u, (bvs l2)[j]? = some u → w.cell? (ad.add j) = some u := by
      intro j u hu
      rcases h2 with rfl | ⟨b, off, e, hb, hc⟩
      · simp [bvs] at hu
      · simp only [Option.some.injEq] at e
        subst e
        have hj : j < l2.length := by
          have := (List.getElem?_eq_some_iff.1 hu).1
          simpa [bvs] using this
        have h3 := hc j hj
        simp [bvs, hj] at hu
        subst hu
        by_cases h0 : j = 0
        · subst h0; simpa [Addr.add] using h3
        · simpa [Addr.add, h0] using h3
    obtain ⟨v', w', hrun, hown', hg, hiff⟩ := run_append_own (P := Try.prog) w base 50 ty 3 i0 _ 1 8 Try.underlying50 hi hz0 hz1 hz2 rfl (by omega) _ _ _ h ad l2.length c2 (bvs l2) (by simp [bvs]) hcells (bvs_one l2)
      (by unfold maxLen; omega) (by omega) hbase
    have hv : ∃ A' c', v' = .slice A' (l ++ l2).length c' := by
      rcases hown'.2 with ⟨h1, h3⟩ | ⟨g, cap, cur, h1, _⟩
      · exact ⟨none, 0, by rw [h1]; simp at h3; simp [h3]⟩
      · exact ⟨some ⟨g, 0, none⟩, cap, by rw [h1]; simp⟩
    obtain ⟨A', c', rfl⟩ := hv
    refine ⟨A', c', w', hrun, ?_, hg, ?_⟩
    · unfold Own
      have e1 : (l ++ l2).length = l.length + l2.length := by simp
      have e2 : bvs (l ++ l2) = bvs l ++ bvs l2 := by simp [bvs]
      rw [e2]
      rw [e1] at hown' ⊢
      exact hown'
    · have h' : w.ownsRow base 3 1 (.slice A l.length c) l.length (bvs l) := h
      rcases h'.2 with ⟨h1, h3⟩ | ⟨g, cap, cur, h1, hbg, hheap, hnc, hcm, hcs, htake⟩
      · simp only [Value.slice.injEq] at h1
        obtain ⟨rfl, _, rfl⟩ := h1
        have : l = [] := List.eq_nil_of_length_eq_zero h3
        subst this
        obtain ⟨v2, w2, hrun2, hown2, _, hiff2⟩ := run_append_own (P := Try.prog) w w.heap.size 50 ty 3 i0 _ 1 8 Try.underlying50 hi hz0 hz1 hz2 rfl (by omega) _ _ _ (World.ownsRow_nil w w.heap.size 3 1) ad l2.length c2 (bvs l2) (by simp [bvs]) hcells (bvs_one l2)
          (by unfold maxLen; omega) (by omega) (Nat.le_refl _)
        have e := hrun.symm.trans hrun2
        injection e with e _
        subst e
        rcases hown2.2 with ⟨h1, h3⟩ | ⟨g, cap, cur, h1, hb2, _⟩
        · simp only [Value.slice.injEq] at h1
          exact .inl h1.1
        · simp only [Value.slice.injEq] at h1
          exact .inr ⟨_, h1.1, hb2⟩
      · simp only [Value.slice.injEq] at h1
        obtain ⟨rfl, _, rfl⟩ := h1
        by_cases hroom : l.length + l2.length ≤ c
        · have hr := run_append_room (P := Try.prog) w 50 ty 3 i0 Try.underlying50 hi g l.length c cur hheap ad l2.length c2 (bvs l2) (by rw [hz1]; simp [bvs]) hcells (bvs_one l2) hroom (by rw [hz1, hcs]; simp [bvs]; omega)
          have e := hrun.symm.trans hr
          injection e with e _
          simp only [Value.slice.injEq] at e
          exact .inl e.1
        · have holds : ∀ j u, (bvs l)[j]? = some u → w.cell? ((⟨g, 0, none⟩ : Addr).add j) = some u := h'.cells (g := g) rfl
          obtain ⟨v2, w2, hrun2, hown2, _⟩ := run_append_arg_grows (P := Try.prog) w 50 ty 3 i0 _ 1 8 Try.underlying50 hi hz0 hz1 hz2 rfl (by omega) ⟨g, 0, none⟩ l.length c (bvs l) (by simp [bvs]) holds ad l2.length c2 (bvs l2) (by simp [bvs]) hcells (by omega) (by unfold maxLen; omega) (by omega)
          have e := hrun.symm.trans hrun2
          injection e with e _
          subst e
          rcases hown2.2 with ⟨h1, h3⟩ | ⟨g2, cap2, cur2, h1, hb2, _⟩
          · simp only [Value.slice.injEq] at h1
            omega
          · simp only [Value.slice.injEq] at h1
            exact .inr ⟨_, h1.1, hb2⟩

theorem Own.lt {w : World} {base : Nat} {A : Option Addr} {c : Nat} {l : List UInt8} (h : Own w base A c l) : ∀ x, A = some x → base ≤ x.block ∧ x.block < w.heap.size := by
  rintro x rfl
  rcases h.form with ⟨e, _⟩ | ⟨g, cur, e, hb, hh, _⟩
  · cases e
  · simp only [Option.some.injEq] at e
    subst e
    exact ⟨hb, lt_of_heap hh⟩

/-- What append onto one owned slice leaves of another. -/
theorem app_beside {w w' : World} {base : Nat} {A A' B : Option Addr} {c d : Nat} {l m : List UInt8} (h : Own w base A c l) (hB : Own w base B d m) (hap : Apart A B) (hg : w.grownBy w' (Value.slice A l.length c).ownBlock) (hm : Moved w A A') (hbase : base ≤ w.heap.size) :
    Own w' base B d m ∧ Apart A' B ∧ Below base w w' := by
  refine ⟨?_, ?_, ?_⟩
  · refine World.ownsRow.kept hB hg ?_
    rcases hB.form with ⟨rfl, _⟩ | ⟨g, cur, rfl, _⟩
    · exact .inl rfl
    · refine .inr ?_
      rcases h.form with ⟨rfl, _⟩ | ⟨g', cur', rfl, _⟩
      · simp [Value.ownBlock]
      · have := hap _ _ rfl rfl
        simp [Value.ownBlock]
        exact fun e => this e.symm
  · intro x y hx hy
    rcases hm with rfl | ⟨z, hz, hz2⟩
    · exact hap x y hx hy
    · have := (hB.lt y hy).2
      rw [hz] at hx
      simp only [Option.some.injEq] at hx
      subst hx
      omega
  · refine (Below.refl _ _).grown hg hbase fun k hk => ?_
    rcases h.form with ⟨rfl, _⟩ | ⟨g, cur, rfl, hgb, _⟩
    · simp [Value.ownBlock] at hk
    · simp [Value.ownBlock] at hk; omega

theorem wp_app2 {w : World} {o : Oper} {a : Act} {K : Act → World → Prop} {Q : Exit → Act → World → Prop} (s x : Operand) (ho : o.op = .call { callee := .builtin .append, args := #[s, x], argTypes := #[50, 50] })
    {base : Nat} {A B : Option Addr} {n c d : Nat} {l m : List UInt8} (hs : a.eval s = .slice A n c) (hn : l.length = n) (h : Own w base A c l) (hB : Own w base B d m) (hap : Apart A B) {B2 : Nat} {A2 : Option Addr} {n2 c2 : Nat} {l2 : List UInt8} (hx : a.eval x = .slice A2 n2 c2) (hn2 : l2.length = n2) (h2 : Rd w B2 A2 l2)
    (hl : n + n2 ≤ 4294967296) (hbase : base ≤ w.heap.size) (r : List UInt8) (hr : l ++ l2 = r)
    (hk : ∀ A' c' w', Own w' base A' c' r → Own w' base B d m → Apart A' B → Below base w w' → K (a.put o.dst (.slice A' r.length c')) w') : o.wp Try.prog a w K Q := by
  subst hr hn hn2
  obtain ⟨A', c', w', hrun, h3, h4, h5⟩ := run_appS h c2 h2 hl hbase o.type
  obtain ⟨k1, k2, k3⟩ := app_beside h hB hap h4 h5 hbase
  unfold Oper.wp execOp
  simp only [ho, resolve, invoke, builtin, Sem.run_bind, Sem.run_pure, Result.andThen_ok, List.map_toArray, List.map_cons, List.map_nil, hs, hx, hrun]
  exact hk A' c' w' h3 k1 k2 k3
theorem wpList_app2 {w : World} {ops : Array Oper} {rest : List Oper} {o : Oper} {a : Act} {Q : Exit → Act → World → Prop} (hgd : o.guard = none) (s x : Operand) (ho : o.op = .call { callee := .builtin .append, args := #[s, x], argTypes := #[50, 50] })
    {base : Nat} {A B : Option Addr} {n c d : Nat} {l m : List UInt8} (hs : a.eval s = .slice A n c) (hn : l.length = n) (h : Own w base A c l) (hB : Own w base B d m) (hap : Apart A B) {B2 : Nat} {A2 : Option Addr} {n2 c2 : Nat} {l2 : List UInt8} (hx : a.eval x = .slice A2 n2 c2) (hn2 : l2.length = n2) (h2 : Rd w B2 A2 l2)
    (hl : n + n2 ≤ 4294967296) (hbase : base ≤ w.heap.size) (r : List UInt8) (hr : l ++ l2 = r)
    (hk : ∀ A' c' w', Own w' base A' c' r → Own w' base B d m → Apart A' B → Below base w w' → wpList Try.prog ops Q rest (a.put o.dst (.slice A' r.length c')) w') : wpList Try.prog ops Q (o :: rest) a w :=
  wpList_plain hgd fun _ hK => wp_app2 s x ho hs hn h hB hap hx hn2 h2 hl hbase r hr fun A' c' w' h3 h4 h5 h6 => hK _ _ (hk A' c' w' h3 h4 h5 h6)

theorem Own.cells {w : World} {base : Nat} {A : Option Addr} {c : Nat} {l : List UInt8} (h : Own w base A c l) (hl : 0 < l.length) : ∃ g, A = some ⟨g, 0, none⟩ ∧ base ≤ g ∧ ∀ j, j < l.length → w.cell? ⟨g, j, none⟩ = some (bv (l.getD j 0)) := by
  rcases h.form with ⟨_, rfl, _⟩ | ⟨g, cur, rfl, hgb, hg, _, ht⟩
  · simp at hl
  · refine ⟨g, rfl, hgb, fun j hj => ?_⟩
    rw [cell_of_row w g j cur 3 (0, 0) hg]
    have h8 : (cur.toList.take l.length)[j]? = (bvs l)[j]? := by rw [ht]
    rw [List.getElem?_take, if_pos hj] at h8
    simpa [bvs, hj] using h8
/-- append of one: what stood there stays, also in the old row; no other block changes. -/
theorem run_appC {w : World} {base g : Nat} {c : Nat} {l : List UInt8} (h : Own w base (some ⟨g, 0, none⟩) c l) (hl0 : 0 < l.length) (ad : Addr) (c2 : Nat) {x : UInt8} (hc : w.cell? ad = some (bv x))
    (hl : l.length ≤ 4294967296) (hbase : base ≤ w.heap.size) (ty : TypeId) :
    ∃ g' c' w', (Builtin.append_ #[50, 50] ty #[.slice (some ⟨g, 0, none⟩) l.length c, .slice (some ad) 1 c2]).run Try.prog w = .ok (.slice (some ⟨g', 0, none⟩) (l ++ [x]).length c') w' ∧ Own w' base (some ⟨g', 0, none⟩) c' (l ++ [x]) ∧ Below base w w' ∧
      (∀ j, j < l.length → w'.cell? ⟨g, j, none⟩ = w.cell? ⟨g, j, none⟩) ∧ (∀ k, k < w.heap.size → k ≠ g → w'.heap[k]? = w.heap[k]?) ∧ (g' = g ∨ w.heap.size ≤ g') := by
  obtain ⟨i0, hi, hz0, hz1, hz2⟩ := info_parts info5
  have hnews : ∀ j u, [bv x][j]? = some u → w.cell? (ad.add j) = some u := fun j u hu => by
    match j, hu with
    | 0, hu => simp at hu; subst hu; simpa [Addr.add] using hc
  have hcell : ∀ j, j < l.length → w.cell? ⟨g, j, none⟩ = some (bv (l.getD j 0)) := fun j hj => by
    obtain ⟨g', e, _, hh⟩ := h.cells (by omega)
    simp only [Option.some.injEq, Addr.mk.injEq] at e
    obtain ⟨rfl, _, _⟩ := e
    exact hh j hj
  by_cases hroom : l.length + 1 ≤ c
  · obtain ⟨w', hrun, hown', hg⟩ := run_append_fits (P := Try.prog) w base 50 ty 3 i0 1 Try.underlying50 hi hz1 g l.length c (bvs l) h ad 1 c2 [bv x] rfl hnews (fun u hu => by simp at hu; subst hu; rfl) hroom
    have ho : Own w' base (some ⟨g, 0, none⟩) c (l ++ [x]) := by unfold Own; simpa [bvs] using hown'
    refine ⟨g, _, w', by simpa using hrun, ho, (Below.refl _ _).grown hg hbase fun k hk => (World.ownsRow.lt h k hk).1, fun j hj => ?_, fun k hk hne => hg.block k hk (by simp; omega), .inl rfl⟩
    obtain ⟨g', e, _, hh⟩ := ho.cells (by simp)
    simp only [Option.some.injEq, Addr.mk.injEq] at e
    obtain ⟨rfl, _, _⟩ := e
    rw [hh j (by simp; omega), hcell j hj]
    simp [hj, List.getElem?_append_left hj]
  · obtain ⟨v', w', hrun, hown', hg⟩ := run_append_arg_grows (P := Try.prog) w 50 ty 3 i0 _ 1 8 Try.underlying50 hi hz0 hz1 hz2 rfl (by omega) ⟨g, 0, none⟩ l.length c (bvs l) (by simp [bvs])
      (fun j u hu => by
        have hj : j < l.length := by
          have := (List.getElem?_eq_some_iff.1 hu).1
          simpa [bvs] using this
        have h3 := hcell j hj
        simp [bvs, hj] at hu
        subst hu
        by_cases h0 : j = 0
        · subst h0; simpa [Addr.add, hj] using h3
        · simpa [Addr.add, h0, hj] using h3) ad 1 c2 [bv x] rfl hnews (by omega) (by unfold maxLen; omega) (by omega)
    have hv' : ∃ g' c', v' = .slice (some ⟨g', 0, none⟩) (l ++ [x]).length c' ∧ w.heap.size ≤ g' := by
      rcases hown'.2 with ⟨_, h4⟩ | ⟨g', cap, cur, h4, h5, _⟩
      · omega
      · exact ⟨g', cap, by rw [h4]; simp, h5⟩
    obtain ⟨g', c', rfl, hg'⟩ := hv'
    have ho : Own w' w.heap.size (some ⟨g', 0, none⟩) c' (l ++ [x]) := by unfold Own; simpa [bvs] using hown'
    refine ⟨g', c', w', hrun, ho.less hbase, ⟨hg.os, hg.tape, hg.output, hg.size, fun k hk => hg.block k (by omega) (by simp)⟩, fun j hj => ?_, fun k hk hne => hg.block k hk (by simp), .inr hg'⟩
    have hb := World.block_lt_of_cell? w _ (hcell j hj)
    exact World.cell?_of_block (hg.block g hb (by simp))
theorem wp_appC {w : World} {o : Oper} {a : Act} {K : Act → World → Prop} {Q : Exit → Act → World → Prop} (s x : Operand) (ho : o.op = .call { callee := .builtin .append, args := #[s, x], argTypes := #[50, 50] })
    {base g : Nat} {c m : Nat} {l : List UInt8} (hs : a.eval s = .slice (some ⟨g, 0, none⟩) m c) (hm : l.length = m) (h0 : 0 < m) (h : Own w base (some ⟨g, 0, none⟩) c l) {ad : Addr} {c2 : Nat} (hx : a.eval x = .slice (some ad) 1 c2) {y : UInt8} (hc : w.cell? ad = some (.int .i64 (y.toNat : Int)))
    (hl : m ≤ 4294967296) (hbase : base ≤ w.heap.size)
    (hk : ∀ g' c' w', Own w' base (some ⟨g', 0, none⟩) c' (l ++ [y]) → Below base w w' → (∀ j, j < m → w'.cell? ⟨g, j, none⟩ = w.cell? ⟨g, j, none⟩) → (∀ k, k < w.heap.size → k ≠ g → w'.heap[k]? = w.heap[k]?) → (g' = g ∨ w.heap.size ≤ g') → K (a.put o.dst (.slice (some ⟨g', 0, none⟩) (m + 1) c')) w') : o.wp Try.prog a w K Q := by
  subst hm
  obtain ⟨g', c', w', hrun, h3, h4, h5, h6, h7⟩ := run_appC h h0 ad c2 hc hl hbase o.type
  unfold Oper.wp execOp
  simp only [ho, resolve, invoke, builtin, Sem.run_bind, Sem.run_pure, Result.andThen_ok, List.map_toArray, List.map_cons, List.map_nil, hs, hx, hrun]
  have := hk g' c' w' h3 h4 h5 h6 h7
  rwa [show l.length + 1 = (l ++ [y]).length by simp] at this
end Go.Proofs.Ytgfmdjagggnfbaa.S7.I
