/-
  SpaceActs: the program's space beside the reference's, and a block that neither touches; the acts.
-/
import Derived.Test.YtdeojgdjjckoeaaSpS
import Derived.Test.YtdeojgdjjckoeaaSpM
namespace Go.Proofs.Ytdeojgdjjckoeaa.S15
open Cf
open Go.RowKit
set_option linter.unusedVariables false
set_option linter.unusedSimpArgs false

/-- The reference's space, its footprint hidden. -/
def RS (base : Nat) : STab := fun w R F s => ∃ Au Ag, Sv w base R Au Ag s ∧ F = SvF R Au Ag
theorem rs_on {base R : Nat} {w w' : World} {F : Nat → Prop} {s' : Sp} (h : SOd base R w F s' w') : SOn (RS base) w R F s' w' := by
  obtain ⟨Au, Ag, h1, h2, h3⟩ := h
  exact ⟨SvF R Au Ag, ⟨Au, Ag, h1, rfl⟩, h2, h3⟩
theorem rs_foot {base : Nat} {w : World} {R : Nat} {F : Nat → Prop} {s : Sp} (h : RS base w R F s) : ∀ k, F k → base ≤ k ∧ k < w.heap.size := by
  obtain ⟨Au, Ag, h1, rfl⟩ := h
  exact h1.lt
theorem rs_keep {base : Nat} {w w' : World} {R : Nat} {F : Nat → Prop} {s : Sp} (h : RS base w R F s) (hk : ∀ k, F k → w'.heap[k]? = w.heap[k]?) : RS base w' R F s := by
  obtain ⟨Au, Ag, h1, rfl⟩ := h
  exact ⟨Au, Ag, h1.keep hk, rfl⟩
/-- Two spaces behind w0, side by side; the reference's in the state s2. -/
structure Tw (D : STab) (w0 w : World) (G : Nat) (F : Nat → Prop) (s : Sp) (R : Nat) (F2 : Nat → Prop) (s2 : Sp) : Prop where
  p : D w G F s
  r : RS w0.heap.size w R F2 s2
  pb : ∀ k, F k → w0.heap.size ≤ k
  ap : ∀ k, F k → ¬ F2 k
  gr : Grown w0 w
/-- A block that neither touches. -/
def Bs (w : World) (F F2 : Nat → Prop) (a : Nat) (o : Obj) : Prop := w.heap[a]? = some o ∧ ¬ F a ∧ ¬ F2 a
section
variable {D : STab} {w0 w w' : World} {G R a : Nat} {F F2 : Nat → Prop} {s s' s2 : Sp} {o : Obj}
theorem Tw.grow (K : SpaceOk D) (h : Tw D w0 w G F s R F2 s2) (hg : Grown w w') : Tw D w0 w' G F s R F2 s2 :=
  { h with p := K.grow h.p hg, r := rs_keep h.r fun k hk => hg.block k (rs_foot h.r k hk).2, gr := h.gr.trans hg }
theorem Bs.grow (h : Bs w F F2 a o) (hg : Grown w w') : Bs w' F F2 a o := ⟨(hg.block a (lt_of_heap h.1)).trans h.1, h.2⟩
/-- The program's goes on. -/
theorem Tw.prog (h : Tw D w0 w G F s R F2 s2) (h1 : SOn D w G F s' w') : ∃ F', Tw D w0 w' G F' s' R F2 s2 ∧ ∀ a o, Bs w F F2 a o → Bs w' F' F2 a o := by
  obtain ⟨F', ha, hb, hc⟩ := h1
  refine ⟨F', ⟨ha, rs_keep h.r fun k hk => hc.block k (rs_foot h.r k hk).2 (fun hf => h.ap k hf hk), fun k hk => ?_, fun k hk hr => ?_, chSinceS h.gr hc h.pb⟩, fun a o hbs => ⟨(hc.block a (lt_of_heap hbs.1) hbs.2.1).trans hbs.1, fun hf => ?_, hbs.2.2⟩⟩
  · rcases hb k hk with h4 | h4
    · exact h.pb k h4
    · exact Nat.le_trans h.gr.size h4
  · rcases hb k hk with h4 | h4
    · exact h.ap k h4 hr
    · have := (rs_foot h.r k hr).2; omega
  · rcases hb a hf with h4 | h4
    · exact hbs.2.1 h4
    · have := lt_of_heap hbs.1; omega
/-- The reference's goes on. -/
theorem Tw.ref (K : SpaceOk D) (h : Tw D w0 w G F s R F2 s2) (h1 : SOn (RS w0.heap.size) w R F2 s' w') : ∃ F', Tw D w0 w' G F s R F' s' ∧ ∀ a o, Bs w F F2 a o → Bs w' F F' a o := by
  obtain ⟨F', ha, hb, hc⟩ := h1
  refine ⟨F', ⟨K.keep w w' G F s h.p (fun k hk => hc.block k (K.foot w G F s h.p k hk) (fun hf => h.ap k hk hf)) hc.size, ha, h.pb, fun k hk hr => ?_, chSinceS h.gr hc (fun k hk => (rs_foot h.r k hk).1)⟩, fun a o hbs => ⟨(hc.block a (lt_of_heap hbs.1) hbs.2.2).trans hbs.1, hbs.2.1, fun hf => ?_⟩⟩
  · rcases hb k hr with h4 | h4
    · exact h.ap k hk h4
    · have := K.foot w G F s h.p k hk; omega
  · rcases hb a hf with h4 | h4
    · exact hbs.2.2 h4
    · have := lt_of_heap hbs.1; omega
theorem Bs.new (K : SpaceOk D) (h : Tw D w0 w G F s R F2 s2) (o : Obj) : Bs (w.alloc o) F F2 w.heap.size o :=
  ⟨heap_alloc_new w o, fun hf => by have := K.foot w G F s h.p _ hf; omega, fun hf => by have := (rs_foot h.r _ hf).2; omega⟩
theorem SpOk.few (h : SpOk s) (hs : s.last - s.first ≤ 60) : Sz s ∧ s.used.length + s.going.length ≤ 60 := by
  have h1 := free_nonneg h
  have h2 := free_eq s
  have := h.f0; have := h.fl; have := h.l1
  exact ⟨⟨by omega, by omega, h.f0, by omega, h.l1⟩, by omega⟩
variable {base n c : Nat} {A : Option Addr} {l : List Int} {F0 : Nat → Prop}
theorem rTake (h : RS base w R F0 s) (hz : Sz s) : Calls Try.prog 11 #[.pointer (some ⟨R, 0, none⟩)] w fun e w' => e = .returned (.tuple #[.int .i64 (spTake s).1, .int .i64 (spTake s).2.1]) ∧ SOn (RS base) w R F0 (spTake s).2.2 w' := by
  obtain ⟨Au, Ag, h1, rfl⟩ := h
  exact (refTake_any h1 hz).mono fun e w' h => ⟨h.1, rs_on h.2⟩
theorem rUse (h : RS base w R F0 s) (hz : Sz s) (ha : RdZ w w.heap.size A l) (hn : l.length = n) (hnc : n ≤ c) (hn2 : n ≤ 1000) (hu : s.used.length + s.going.length ≤ 60) (hoff : ∀ x, A = some x → l ≠ [] → ¬ F0 x.block) :
    Calls Try.prog 13 #[.pointer (some ⟨R, 0, none⟩), .slice A n c] w fun e w' => e = .returned (.int .i64 (spUse s l).1) ∧ SOn (RS base) w R F0 (spUse s l).2 w' := by
  obtain ⟨Au, Ag, h1, rfl⟩ := h
  exact (refUse_any h1 hz A n c l ha hn hnc hn2 (by omega) hoff).mono fun e w' h => ⟨h.1, rs_on h.2⟩
theorem rGive (h : RS base w R F0 s) (hz : Sz s) (ha : RdZ w w.heap.size A l) (hn : l.length = n) (hnc : n ≤ c) (hn2 : n ≤ 1000) (hu : s.used.length + s.going.length ≤ 60) (hoff : ∀ x, A = some x → l ≠ [] → ¬ F0 x.block) :
    Calls Try.prog 15 #[.pointer (some ⟨R, 0, none⟩), .slice A n c] w fun e w' => e = .returned (.int .i64 (spGive s l).1) ∧ SOn (RS base) w R F0 (spGive s l).2 w' := by
  obtain ⟨Au, Ag, h1, rfl⟩ := h
  exact (refGive_any h1 hz A n c l ha hn hnc hn2 (by omega) hoff).mono fun e w' h => ⟨h.1, rs_on h.2⟩
theorem rBack (h : RS base w R F0 s) (hz : Sz s) (ha : RdZ w w.heap.size A l) (hn : l.length = n) (hnc : n ≤ c) (hn2 : n ≤ 1000) (hu : s.used.length + s.going.length ≤ 60) (hoff : ∀ x, A = some x → l ≠ [] → ¬ F0 x.block) :
    Calls Try.prog 20 #[.pointer (some ⟨R, 0, none⟩), .slice A n c] w fun e w' => e = .returned (.int .i64 (spBack s l).1) ∧ SOn (RS base) w R F0 (spBack s l).2 w' := by
  obtain ⟨Au, Ag, h1, rfl⟩ := h
  exact (refBack_any h1 hz A n c l ha hn hnc hn2 (by omega) hoff).mono fun e w' h => ⟨h.1, rs_on h.2⟩
theorem rUndo (h : RS base w R F0 s) (hz : Sz s) (ha : RdZ w w.heap.size A l) (hn : l.length = n) (hnc : n ≤ c) (hn2 : n ≤ 1000) (hu : s.used.length + s.going.length ≤ 60) (hoff : ∀ x, A = some x → l ≠ [] → ¬ F0 x.block) :
    Calls Try.prog 18 #[.pointer (some ⟨R, 0, none⟩), .slice A n c] w fun e w' => e = .returned (.tuple #[]) ∧ SOn (RS base) w R F0 (spUndo s l) w' := by
  obtain ⟨Au, Ag, h1, rfl⟩ := h
  exact (refUndo_any h1 hz A n c l ha hn hnc hn2 (by omega) hoff).mono fun e w' h => ⟨h.1, rs_on h.2⟩
/-- The law's own store: none goes any more. -/
theorem rSettle (h : RS base w R F0 s) : (∃ v, w.cell? ⟨R, 3, none⟩ = some v) ∧ w.frozen? ⟨R, 3, none⟩ = false ∧ SOn (RS base) w R F0 (spSettle s) (w.setCell ⟨R, 3, none⟩ (.slice none 0 0)) := by
  obtain ⟨Au, Ag, h1, rfl⟩ := h
  obtain ⟨cu, cg, hR, _⟩ := h1.ex
  refine ⟨⟨_, cell_of_row w R 3 _ _ (0, 0) hR⟩, frozen_of_row w R 3 _ _ hR, rs_on ?_⟩
  obtain ⟨a1, a2, a3⟩ := h1.setGoing (w1 := w) (A' := none) (c' := 0) (n' := 0) (l' := []) (fun _ _ _ => rfl) (Ch.refl _ _) (OwZ.nil _ _) (fun x hx => by cases hx) rfl
  exact ⟨Au, none, a1, a2, a3⟩
theorem ends_take (s : Sp) : (spTake s).2.2.first = s.first ∧ (spTake s).2.2.last = s.last := by unfold spTake; split <;> exact ⟨rfl, rfl⟩
theorem ends_use (s : Sp) (l : List Int) : (spUse s l).2.first = s.first ∧ (spUse s l).2.last = s.last := by unfold spUse; split <;> exact ⟨rfl, rfl⟩
theorem ends_give (s : Sp) (l : List Int) : (spGive s l).2.first = s.first ∧ (spGive s l).2.last = s.last := by unfold spGive; split <;> exact ⟨rfl, rfl⟩
theorem ends_back (s : Sp) (l : List Int) : (spBack s l).2.first = s.first ∧ (spBack s l).2.last = s.last := by unfold spBack; split <;> exact ⟨rfl, rfl⟩
theorem off_p (h : Tw D w0 w G F s R F2 s2) (hr : RdZ w0 w0.heap.size A l) : (∀ x, A = some x → l ≠ [] → ¬ F x.block) ∧ ∀ x, A = some x → l ≠ [] → ¬ F2 x.block :=
  ⟨fun x hx hl hf => by
    rcases hr with e | ⟨b, off, rfl, hb, _⟩
    · exact hl e
    · simp only [Option.some.injEq] at hx
      subst hx
      have := h.pb _ hf
      simp only at this
      omega, fun x hx hl hf => by
    rcases hr with e | ⟨b, off, rfl, hb, _⟩
    · exact hl e
    · simp only [Option.some.injEq] at hx
      subst hx
      have := (rs_foot h.r _ hf).1
      simp only at this
      omega⟩
end
/-- An act of the law. -/
structure Ac where
  k : Int
  at_ : List Int
/-- The slice at A reads as the acts. -/
def RdAc (w : World) (B : Nat) (A : Option Addr) (acts : List Ac) : Prop :=
  acts = [] ∨ ∃ b off, A = some ⟨b, off, none⟩ ∧ b < B ∧ ∀ i (h : i < acts.length), ∃ Aa na ca, w.cell? ⟨b, off + i * 2, none⟩ = some (.int .i64 acts[i].k) ∧ w.cell? ⟨b, off + i * 2 + 1, none⟩ = some (.slice Aa na ca) ∧ acts[i].at_.length = na ∧ na ≤ ca ∧ RdZ w B Aa acts[i].at_ ∧ Irs acts[i].at_
end Go.Proofs.Ytdeojgdjjckoeaa.S15
