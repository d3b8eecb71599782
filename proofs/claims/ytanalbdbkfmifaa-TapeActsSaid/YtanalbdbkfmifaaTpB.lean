/-
  TapeActs out of the program's contracts.
-/
import Derived.Test.YtanalbdbkfmifaaTpA
namespace Go.Proofs.Ytanalbdbkfmifaa.S11
open Go.RowKit
set_option linter.unusedVariables false
set_option linter.unusedSimpArgs false

/-- An act of the law. -/
structure Ac where
  k : Int
  n : Int
  name : List UInt8
  x : List UInt8
def acCells (a : Ac) : Array Value := #[.int .i64 a.k, .int .i64 a.n, .string ⟨a.name.toArray⟩, .string ⟨a.x.toArray⟩]
/-- The slice at A reads as the acts. -/
def RdA (w : World) (B : Nat) (A : Option Addr) (acts : List Ac) : Prop :=
  acts = [] ∨ ∃ b off, A = some ⟨b, off, none⟩ ∧ b < B ∧ ∀ i (h : i < acts.length), w.cell? ⟨b, off + i * 4, none⟩ = some (.int .i64 acts[i].k) ∧ w.cell? ⟨b, off + i * 4 + 1, none⟩ = some (.int .i64 acts[i].n) ∧ w.cell? ⟨b, off + i * 4 + 2, none⟩ = some (.string ⟨acts[i].name.toArray⟩) ∧ w.cell? ⟨b, off + i * 4 + 3, none⟩ = some (.string ⟨acts[i].x.toArray⟩)
/-- What an act leaves. -/
def stepA (st : St) (a : Ac) : St := if a.k = 0 then (fnOp st a.name a.x a.n).2 else if a.k = 1 then (prOp st a.name a.x true).2 else if a.k = 2 then (prOp st a.name a.x false).2 else (drOp st a.n).2
def Num (st : St) (i : Nat) : Prop := st.fs.length ≤ i ∧ st.ps.length ≤ i ∧ st.cnt ≤ i
theorem Num.few {st : St} {i : Nat} (h : Num st i) (hi : i ≤ 200) : Few st := ⟨by have := h.1; omega, by have := h.2.1; omega, by have := h.2.2; omega⟩
theorem Num.up {st : St} {i : Nat} (h : Num st i) : Num st (i + 1) := ⟨by have := h.1; omega, by have := h.2.1; omega, by have := h.2.2; omega⟩
theorem num_fn {st : St} {i : Nat} (h : Num st i) (name q : List UInt8) (n : Int) : Num (fnOp st name q n).2 (i + 1) := by
  unfold fnOp
  split
  · exact h.up
  · exact ⟨by show (st.fs ++ _).length ≤ _; have := h.1; simp; omega, by have := h.2.1; show st.ps.length ≤ _; omega, by have := h.2.2; show st.cnt + 1 ≤ _; omega⟩
theorem num_pr {st : St} {i : Nat} (h : Num st i) (name s : List UInt8) (first : Bool) : Num (prOp st name s first).2 (i + 1) := by
  unfold prOp
  split
  · exact h.up
  · split
    · exact h.up
    · exact ⟨by have := h.1; show st.fs.length ≤ _; omega, by show (st.ps ++ _).length ≤ _; have := h.2.1; simp; omega, by have := h.2.2; show st.cnt + 1 ≤ _; omega⟩
theorem num_dr {st : St} {i : Nat} (h : Num st i) (n : Int) : Num (drOp st n).2 (i + 1) := by
  have := h.up
  exact ⟨this.1, this.2.1, this.2.2⟩
/-- Where the law stands: the program's tables and the reference's, the same, side by side. -/
def Both (Lz : Tab) (w wr : World) (G : Nat) (F : Nat → Prop) (R : Nat) (Af Ap : Option Addr) (st : St) : Prop :=
  Since Lz w wr G F st ∧ Rz wr w.heap.size R R Af Ap st ∧ w.heap.size ≤ R ∧ ∀ k, F k → ¬ RF R Af Ap k
section
variable {Lz : Tab} {w wr w' : World} {G R : Nat} {F F' : Nat → Prop} {Af Ap Af' Ap' : Option Addr} {st st' : St}
theorem Both.grow (K : TapeOk Lz) (h : Both Lz w wr G F R Af Ap st) (hg : Grown wr w') : Both Lz w w' G F R Af Ap st :=
  ⟨h.1.grow K hg, h.2.1.keep (fun k hk => hg.block k (by have := h.1.2.2.size; omega)) (fun k hk => hg.block k (h.2.1.lt k hk).2), h.2.2⟩
/-- Half way: the program's has gone on, the reference's not. -/
def Half (Lz : Tab) (w wr : World) (G : Nat) (F : Nat → Prop) (R : Nat) (Af Ap : Option Addr) (st' st : St) : Prop :=
  Since Lz w wr G F st' ∧ Rz wr w.heap.size R R Af Ap st ∧ w.heap.size ≤ R ∧ ∀ k, F k → ¬ RF R Af Ap k
theorem Both.half (h : Both Lz w wr G F R Af Ap st) (h1 : Lz w' G F' st') (h2 : ∀ k, F' k → F k ∨ wr.heap.size ≤ k) (h3 : Ch F wr w') : Half Lz w w' G F' R Af Ap st' st := by
  refine ⟨h.1.step h1 h2 h3, h.2.1.keep (fun k hk => h3.block k (by have := h.1.2.2.size; omega) (fun hf => by have := h.1.2.1 k hf; omega)) (fun k hk => h3.block k (h.2.1.lt k hk).2 (fun hf => h.2.2.2 k hf hk)), h.2.2.1, fun k hk hr => ?_⟩
  rcases h2 k hk with h4 | h4
  · exact h.2.2.2 k h4 hr
  · have := (h.2.1.lt k hr).2; omega
/-- The reference's has gone on, too. -/
theorem Half.both (K : TapeOk Lz) (h : Half Lz w wr G F R Af Ap st' st) (hz : Rz w' w.heap.size R R Af' Ap' st') (hch : Ch (RF R Af Ap) wr w') (hf : Moved wr Af Af') (hp : Moved wr Ap Ap') : Both Lz w w' G F R Af' Ap' st' := by
  have hfoot := K.foot wr G F st' h.1.1
  have hg : Grown w w' := Ch.since h.1.2.2 hch (fun k hk => by have := (h.2.1.lt k hk).1; have := h.2.2.1; omega)
  refine ⟨⟨K.keep wr w' G F st' h.1.1 (fun k hk => hch.block k (hfoot k hk) (h.2.2.2 k hk)) hch.size, h.1.2.1, hg⟩, hz, h.2.2.1, fun k hk hr => ?_⟩
  have hk2 := hfoot k hk
  have hn := h.2.2.2 k hk
  rcases hr with rfl | ⟨x, hx, rfl⟩ | ⟨x, hx, rfl⟩
  · exact hn (.inl rfl)
  · rcases hf with e | ⟨y, hy, hy2⟩
    · rw [e] at hx; exact hn (.inr (.inl ⟨x, hx, rfl⟩))
    · rw [hx] at hy; simp only [Option.some.injEq] at hy; subst hy; omega
  · rcases hp with e | ⟨y, hy, hy2⟩
    · rw [e] at hx; exact hn (.inr (.inr ⟨x, hx, rfl⟩))
    · rw [hx] at hy; simp only [Option.some.injEq] at hy; subst hy; omega
theorem Half.grow (K : TapeOk Lz) (h : Half Lz w wr G F R Af Ap st' st) (hg : Grown wr w') : Half Lz w w' G F R Af Ap st' st :=
  ⟨h.1.grow K hg, h.2.1.keep (fun k hk => hg.block k (by have := h.1.2.2.size; omega)) (fun k hk => hg.block k (h.2.1.lt k hk).2), h.2.2⟩
end
end Go.Proofs.Ytanalbdbkfmifaa.S11
