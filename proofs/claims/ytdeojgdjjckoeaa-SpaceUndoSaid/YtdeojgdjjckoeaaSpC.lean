/-
  What the laws of space ask of the program; law15's awake out of it.
-/
import Derived.Test.YtdeojgdjjckoeaaSpM
import Derived.Test.YtdeojgdjjckoeaaSpN
namespace Go.Proofs.Ytdeojgdjjckoeaa.S15
open Cf
open Go.RowKit
set_option linter.unusedVariables false
set_option linter.unusedSimpArgs false

/-- A space of the program in memory: at G, in the blocks F, in the state s. -/
abbrev STab := World → Nat → (Nat → Prop) → Sp → Prop
def SOn (D : STab) (w : World) (G : Nat) (F : Nat → Prop) (s' : Sp) (w' : World) : Prop := ∃ F', D w' G F' s' ∧ (∀ k, F' k → F k ∨ w.heap.size ≤ k) ∧ Ch F w w'
def Ir (n : Int) : Prop := -9223372036854775808 ≤ n ∧ n < 9223372036854775808
def Irs (l : List Int) : Prop := ∀ x ∈ l, Ir x
structure SpaceOk (D : STab) : Prop where
  foot : ∀ w G F s, D w G F s → ∀ k, F k → k < w.heap.size
  keep : ∀ w w' G F s, D w G F s → (∀ k, F k → w'.heap[k]? = w.heap[k]?) → w.heap.size ≤ w'.heap.size → D w' G F s
  new : ∀ w (f l : Int), 0 ≤ f → f < l → l ≤ 65536 → Calls Try.prog 8 #[.int .i64 f, .int .i64 l] w fun e w' =>
    ∃ G F, e = .returned (.tuple #[.pointer (some ⟨G, 0, none⟩), .int .i64 0]) ∧ D w' G F (spNew f l) ∧ (∀ k, F k → w.heap.size ≤ k) ∧ Grown w w'
  bad : ∀ w (f l : Int), Ir f → Ir l → ¬ (0 ≤ f ∧ f < l ∧ l ≤ 65536) → Calls Try.prog 8 #[.int .i64 f, .int .i64 l] w fun e w' => e = .returned (.tuple #[.pointer none, .int .i64 2]) ∧ Grown w w'
  take : ∀ w G F s, D w G F s → SpOk s → Calls Try.prog 10 #[.pointer (some ⟨G, 0, none⟩)] w fun e w' => e = .returned (.tuple #[.int .i64 (spTake s).1, .int .i64 (spTake s).2.1]) ∧ SOn D w G F (spTake s).2.2 w'
  use : ∀ w G F s A m c l, D w G F s → SpOk s → RdZ w w.heap.size A l → l.length = m → m ≤ c → m ≤ 1000 → Irs l → (∀ x, A = some x → l ≠ [] → ¬ F x.block) →
    Calls Try.prog 12 #[.pointer (some ⟨G, 0, none⟩), .slice A m c] w fun e w' => e = .returned (.int .i64 (spUse s l).1) ∧ SOn D w G F (spUse s l).2 w'
  give : ∀ w G F s A m c l, D w G F s → SpOk s → RdZ w w.heap.size A l → l.length = m → m ≤ c → m ≤ 1000 → Irs l → (∀ x, A = some x → l ≠ [] → ¬ F x.block) →
    Calls Try.prog 14 #[.pointer (some ⟨G, 0, none⟩), .slice A m c] w fun e w' => e = .returned (.int .i64 (spGive s l).1) ∧ SOn D w G F (spGive s l).2 w'
  back : ∀ w G F s A m c l, D w G F s → SpOk s → RdZ w w.heap.size A l → l.length = m → m ≤ c → m ≤ 1000 → Irs l → (∀ x, A = some x → l ≠ [] → ¬ F x.block) →
    Calls Try.prog 19 #[.pointer (some ⟨G, 0, none⟩), .slice A m c] w fun e w' => e = .returned (.int .i64 (spBack s l).1) ∧ SOn D w G F (spBack s l).2 w'
  settle : ∀ w G F s, D w G F s → SpOk s → Calls Try.prog 16 #[.pointer (some ⟨G, 0, none⟩)] w fun e w' => e = .returned (.tuple #[]) ∧ SOn D w G F (spSettle s) w'
  undo : ∀ w G F s A m c l, D w G F s → SpOk s → RdZ w w.heap.size A l → l.length = m → m ≤ c → m ≤ 1000 → Irs l → (∀ x, A = some x → l ≠ [] → ¬ F x.block) →
    Calls Try.prog 17 #[.pointer (some ⟨G, 0, none⟩), .slice A m c] w fun e w' => e = .returned (.tuple #[]) ∧ SOn D w G F (spUndo s l) w'
  free : ∀ w G F s, D w G F s → SpOk s → Calls Try.prog 9 #[.pointer (some ⟨G, 0, none⟩)] w fun e w' => e = .returned (.int .i64 (spFree s)) ∧ Grown w w'
  used : ∀ w G F s, D w G F s → SpOk s → Calls Try.prog 23 #[.pointer (some ⟨G, 0, none⟩)] w fun e w' =>
    ∃ A m c, e = .returned (.slice A m c) ∧ s.used.length = m ∧ m ≤ c ∧ RdZ w' w'.heap.size A s.used ∧ Grown w w' ∧ ∀ x, A = some x → s.used ≠ [] → w.heap.size ≤ x.block
  is_ : ∀ w G F s (n : Int), D w G F s → SpOk s → Ir n → Calls Try.prog 24 #[.pointer (some ⟨G, 0, none⟩), .int .i64 n] w fun e w' => e = .returned (.bool (s.used.contains n)) ∧ Grown w w'
section
variable {D : STab}
theorem SpaceOk.grow (K : SpaceOk D) {w w' : World} {G : Nat} {F : Nat → Prop} {s : Sp} (h : D w G F s) (hg : Grown w w') : D w' G F s :=
  K.keep w w' G F s h (fun k hk => hg.block k (K.foot w G F s h k hk)) hg.size
theorem chSinceS {F : Nat → Prop} {w0 w w' : World} (hg : Grown w0 w) (h : Ch F w w') (hF : ∀ k, F k → w0.heap.size ≤ k) : Grown w0 w' :=
  ⟨h.os.trans hg.os, h.tape.trans hg.tape, h.output.trans hg.output, Nat.le_trans hg.size h.size, fun k hk => (h.block k (Nat.lt_of_lt_of_le hk hg.size) (fun hf => by have := hF k hf; omega)).trans (hg.block k hk)⟩
/-- The space was made behind w0. -/
def SSince (D : STab) (w0 w : World) (G : Nat) (F : Nat → Prop) (s : Sp) : Prop := D w G F s ∧ (∀ k, F k → w0.heap.size ≤ k) ∧ Grown w0 w
theorem SSince.grow (K : SpaceOk D) {w0 w w' : World} {G : Nat} {F : Nat → Prop} {s : Sp} (h : SSince D w0 w G F s) (hg : Grown w w') : SSince D w0 w' G F s := ⟨K.grow h.1 hg, h.2.1, Grown.trans h.2.2 hg⟩
theorem SSince.step {w0 w w' : World} {G : Nat} {F : Nat → Prop} {s s' : Sp} (h : SSince D w0 w G F s) (h1 : SOn D w G F s' w') : ∃ F', SSince D w0 w' G F' s' ∧ (∀ k, F' k → F k ∨ w.heap.size ≤ k) ∧ Ch F w w' := by
  obtain ⟨F', ha, hb, hc⟩ := h1
  refine ⟨F', ⟨ha, fun k hk => ?_, chSinceS h.2.2 hc h.2.1⟩, hb, hc⟩
  rcases hb k hk with h4 | h4
  · exact h.2.1 k h4
  · exact Nat.le_trans h.2.2.size h4
/-- A row of one number, of the law's own: it does not touch the space. -/
theorem one1 (w : World) (n : Int) (t : TypeId) : RdZ (w.alloc (.cells #[.int .i64 n] t)) (w.alloc (.cells #[.int .i64 n] t)).heap.size (some ⟨w.heap.size, 0, none⟩) [n] :=
  .inr ⟨w.heap.size, 0, rfl, by rw [World.size_alloc]; omega, fun j hj => by
    simp only [List.length_cons, List.length_nil] at hj
    obtain rfl : j = 0 := by omega
    have := heap_alloc_new w (.cells #[.int .i64 n] t)
    rw [Nat.add_zero, cell_of_row _ w.heap.size 0 _ _ (0, 0) this]; rfl⟩
end
end Go.Proofs.Ytdeojgdjjckoeaa.S15
