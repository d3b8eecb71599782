/-
  append onto bytes that a call owns, beside others that it owns: the block of the result is the old one, or a new one.
-/
import Derived.Test.YtdeojgdjjckoeaaApp
import Derived.Test.YtdeojgdjjckoeaaGrow
import Derived.ArgAppend
namespace Go.Proofs.Ytdeojgdjjckoeaa
open Go.RowKit
set_option linter.unusedVariables false
set_option linter.unusedSimpArgs false

/-- Two slices share no block. -/
def Apart (A B : Option Addr) : Prop := ∀ x y, A = some x → B = some y → x.block ≠ y.block
theorem Apart.symm {A B : Option Addr} (h : Apart A B) : Apart B A := fun x y hx hy e => h y x hy hx e.symm
/-- The block of A' is that of A, or one that was not there in w. -/
def Moved (w : World) (A A' : Option Addr) : Prop := A' = A ∨ ∃ x, A' = some x ∧ w.heap.size ≤ x.block

theorem run_appS {w : World} {base : Nat} {A : Option Addr} {c : Nat} {l : List UInt8} (h : Own w base A c l) {B : Nat} {A2 : Option Addr} (c2 : Nat) {l2 : List UInt8} (h2 : Rd w B A2 l2)
    (hl : l.length + l2.length ≤ 4294967296) (hbase : base ≤ w.heap.size) (ty : TypeId) :
    ∃ A' c' w', (Builtin.append_ #[47, 47] ty #[.slice A l.length c, .slice A2 l2.length c2]).run Try.prog w = .ok (.slice A' (l ++ l2).length c') w' ∧ Own w' base A' c' (l ++ l2) ∧ w.grownBy w' (Value.slice A l.length c).ownBlock ∧ Moved w A A' := by
  obtain ⟨i0, hi, hz0, hz1, hz2⟩ := info_parts info5
  by_cases hn : A2 = none
  · subst hn
    have hl2 : l2 = [] := by
      rcases h2 with h2 | ⟨b, off, e, _⟩
      · exact h2
      · cases e
    subst hl2
    refine ⟨A, c, w, ?_, by simpa using h, ⟨rfl, rfl, rfl, Nat.le_refl _, fun _ _ _ => rfl⟩, .inl rfl⟩
    have h' : w.ownsRow base 5 1 (.slice A l.length c) l.length (bvs l) := h
    rcases h'.2 with ⟨h1, h3⟩ | ⟨g, cap, cur, h1, _, _, hnc, _⟩
    · simp only [Value.slice.injEq] at h1
      obtain ⟨rfl, _, rfl⟩ := h1
      have : l = [] := List.eq_nil_of_length_eq_zero h3
      subst this
      simp [Builtin.append_, run_underlying Try.underlying47, sizeOf, typeInfo, hi, Builtin.lenOf, Builtin.firstCells]
    · simp only [Value.slice.injEq] at h1
      obtain ⟨rfl, _, rfl⟩ := h1
      simp [Builtin.append_, run_underlying Try.underlying47, sizeOf, typeInfo, hi, Builtin.lenOf, Builtin.firstCells, hnc, storeCells]
  · obtain ⟨ad, rfl⟩ : ∃ ad, A2 = some ad := by cases A2 with | none => exact absurd rfl hn | some ad => exact ⟨ad, rfl⟩
    have hcells : ∀ j u, (bvs l2)[j]? = some u → w.cell? (ad.add j) = some u := by
      intro j u hu
      rcases h2 with rfl | ⟨b, off, e, hb, hc⟩
      · simp [bvs] at hu
      · simp only [Option.some.injEq] at e
        subst e
        have hj : j < l2.length := by
          have := (List.getElem?_eq_some_iff.1 hu).1
          simpa [bvs] using this
        have h3 := hc j hj
        simp [bvs, hj] at hu
        subst hu
        by_cases h0 : j = 0
        · subst h0; simpa [Addr.add] using h3
        · simpa [Addr.add, h0] using h3
    obtain ⟨v', w', hrun, hown', hg, hiff⟩ := run_append_own (P := Try.prog) w base 47 ty 5 i0 _ 1 1 Try.underlying47 hi hz0 hz1 hz2 rfl (by omega) _ _ _ h ad l2.length c2 (bvs l2) (by simp [bvs]) hcells (bvs_one l2)
      (by unfold maxLen; omega) (by omega) hbase
    have hv : ∃ A' c', v' = .slice A' (l ++ l2).length c' := by
      rcases hown'.2 with ⟨h1, h3⟩ | ⟨g, cap, cur, h1, _⟩
      · exact ⟨none, 0, by rw [h1]; simp at h3; simp [h3]⟩
      · exact ⟨some ⟨g, 0, none⟩, cap, by rw [h1]; simp⟩
    obtain ⟨A', c', rfl⟩ := hv
    refine ⟨A', c', w', hrun, ?_, hg, ?_⟩
    · unfold Own
      have e1 : (l ++ l2).length = l.length + l2.length := by simp
      have e2 : bvs (l ++ l2) = bvs l ++ bvs l2 := by simp [bvs]
      rw [e2]
      rw [e1] at hown' ⊢
      exact hown'
    · have h' : w.ownsRow base 5 1 (.slice A l.length c) l.length (bvs l) := h
      rcases h'.2 with ⟨h1, h3⟩ | ⟨g, cap, cur, h1, hbg, hheap, hnc, hcm, hcs, htake⟩
      · simp only [Value.slice.injEq] at h1
        obtain ⟨rfl, _, rfl⟩ := h1
        have : l = [] := List.eq_nil_of_length_eq_zero h3
        subst this
        obtain ⟨v2, w2, hrun2, hown2, _, hiff2⟩ := run_append_own (P := Try.prog) w w.heap.size 47 ty 5 i0 _ 1 1 Try.underlying47 hi hz0 hz1 hz2 rfl (by omega) _ _ _ (World.ownsRow_nil w w.heap.size 5 1) ad l2.length c2 (bvs l2) (by simp [bvs]) hcells (bvs_one l2)
          (by unfold maxLen; omega) (by omega) (Nat.le_refl _)
        have e := hrun.symm.trans hrun2
        injection e with e _
        subst e
        rcases hown2.2 with ⟨h1, h3⟩ | ⟨g, cap, cur, h1, hb2, _⟩
        · simp only [Value.slice.injEq] at h1
          exact .inl h1.1
        · simp only [Value.slice.injEq] at h1
          exact .inr ⟨_, h1.1, hb2⟩
      · simp only [Value.slice.injEq] at h1
        obtain ⟨rfl, _, rfl⟩ := h1
        by_cases hroom : l.length + l2.length ≤ c
        · have hr := run_append_room (P := Try.prog) w 47 ty 5 i0 Try.underlying47 hi g l.length c cur hheap ad l2.length c2 (bvs l2) (by rw [hz1]; simp [bvs]) hcells (bvs_one l2) hroom (by rw [hz1, hcs]; simp [bvs]; omega)
          have e := hrun.symm.trans hr
          injection e with e _
          simp only [Value.slice.injEq] at e
          exact .inl e.1
        · have holds : ∀ j u, (bvs l)[j]? = some u → w.cell? ((⟨g, 0, none⟩ : Addr).add j) = some u := h'.cells (g := g) rfl
          obtain ⟨v2, w2, hrun2, hown2, _⟩ := run_append_arg_grows (P := Try.prog) w 47 ty 5 i0 _ 1 1 Try.underlying47 hi hz0 hz1 hz2 rfl (by omega) ⟨g, 0, none⟩ l.length c (bvs l) (by simp [bvs]) holds ad l2.length c2 (bvs l2) (by simp [bvs]) hcells (by omega) (by unfold maxLen; omega) (by omega)
          have e := hrun.symm.trans hrun2
          injection e with e _
          subst e
          rcases hown2.2 with ⟨h1, h3⟩ | ⟨g2, cap2, cur2, h1, hb2, _⟩
          · simp only [Value.slice.injEq] at h1
            omega
          · simp only [Value.slice.injEq] at h1
            exact .inr ⟨_, h1.1, hb2⟩

theorem Own.lt {w : World} {base : Nat} {A : Option Addr} {c : Nat} {l : List UInt8} (h : Own w base A c l) : ∀ x, A = some x → base ≤ x.block ∧ x.block < w.heap.size := by
  rintro x rfl
  rcases h.form with ⟨e, _⟩ | ⟨g, cur, e, hb, hh, _⟩
  · cases e
  · simp only [Option.some.injEq] at e
    subst e
    exact ⟨hb, lt_of_heap hh⟩

/-- What append onto one owned slice leaves of another. -/
theorem app_beside {w w' : World} {base : Nat} {A A' B : Option Addr} {c d : Nat} {l m : List UInt8} (h : Own w base A c l) (hB : Own w base B d m) (hap : Apart A B) (hg : w.grownBy w' (Value.slice A l.length c).ownBlock) (hm : Moved w A A') (hbase : base ≤ w.heap.size) :
    Own w' base B d m ∧ Apart A' B ∧ Below base w w' := by
  refine ⟨?_, ?_, ?_⟩
  · refine World.ownsRow.kept hB hg ?_
    rcases hB.form with ⟨rfl, _⟩ | ⟨g, cur, rfl, _⟩
    · exact .inl rfl
    · refine .inr ?_
      rcases h.form with ⟨rfl, _⟩ | ⟨g', cur', rfl, _⟩
      · simp [Value.ownBlock]
      · have := hap _ _ rfl rfl
        simp [Value.ownBlock]
        exact fun e => this e.symm
  · intro x y hx hy
    rcases hm with rfl | ⟨z, hz, hz2⟩
    · exact hap x y hx hy
    · have := (hB.lt y hy).2
      rw [hz] at hx
      simp only [Option.some.injEq] at hx
      subst hx
      omega
  · refine (Below.refl _ _).grown hg hbase fun k hk => ?_
    rcases h.form with ⟨rfl, _⟩ | ⟨g, cur, rfl, hgb, _⟩
    · simp [Value.ownBlock] at hk
    · simp [Value.ownBlock] at hk; omega

theorem wp_app2 {w : World} {o : Oper} {a : Act} {K : Act → World → Prop} {Q : Exit → Act → World → Prop} (s x : Operand) (ho : o.op = .call { callee := .builtin .append, args := #[s, x], argTypes := #[47, 47] })
    {base : Nat} {A B : Option Addr} {n c d : Nat} {l m : List UInt8} (hs : a.eval s = .slice A n c) (hn : l.length = n) (h : Own w base A c l) (hB : Own w base B d m) (hap : Apart A B) {B2 : Nat} {A2 : Option Addr} {n2 c2 : Nat} {l2 : List UInt8} (hx : a.eval x = .slice A2 n2 c2) (hn2 : l2.length = n2) (h2 : Rd w B2 A2 l2)
    (hl : n + n2 ≤ 4294967296) (hbase : base ≤ w.heap.size) (r : List UInt8) (hr : l ++ l2 = r)
    (hk : ∀ A' c' w', Own w' base A' c' r → Own w' base B d m → Apart A' B → Below base w w' → K (a.put o.dst (.slice A' r.length c')) w') : o.wp Try.prog a w K Q := by
  subst hr hn hn2
  obtain ⟨A', c', w', hrun, h3, h4, h5⟩ := run_appS h c2 h2 hl hbase o.type
  obtain ⟨k1, k2, k3⟩ := app_beside h hB hap h4 h5 hbase
  unfold Oper.wp execOp
  simp only [ho, resolve, invoke, builtin, Sem.run_bind, Sem.run_pure, Result.andThen_ok, List.map_toArray, List.map_cons, List.map_nil, hs, hx, hrun]
  exact hk A' c' w' h3 k1 k2 k3
theorem wpList_app2 {w : World} {ops : Array Oper} {rest : List Oper} {o : Oper} {a : Act} {Q : Exit → Act → World → Prop} (hgd : o.guard = none) (s x : Operand) (ho : o.op = .call { callee := .builtin .append, args := #[s, x], argTypes := #[47, 47] })
    {base : Nat} {A B : Option Addr} {n c d : Nat} {l m : List UInt8} (hs : a.eval s = .slice A n c) (hn : l.length = n) (h : Own w base A c l) (hB : Own w base B d m) (hap : Apart A B) {B2 : Nat} {A2 : Option Addr} {n2 c2 : Nat} {l2 : List UInt8} (hx : a.eval x = .slice A2 n2 c2) (hn2 : l2.length = n2) (h2 : Rd w B2 A2 l2)
    (hl : n + n2 ≤ 4294967296) (hbase : base ≤ w.heap.size) (r : List UInt8) (hr : l ++ l2 = r)
    (hk : ∀ A' c' w', Own w' base A' c' r → Own w' base B d m → Apart A' B → Below base w w' → wpList Try.prog ops Q rest (a.put o.dst (.slice A' r.length c')) w') : wpList Try.prog ops Q (o :: rest) a w :=
  wpList_plain hgd fun _ hK => wp_app2 s x ho hs hn h hB hap hx hn2 h2 hl hbase r hr fun A' c' w' h3 h4 h5 h6 => hK _ _ (hk A' c' w' h3 h4 h5 h6)
end Go.Proofs.Ytdeojgdjjckoeaa
