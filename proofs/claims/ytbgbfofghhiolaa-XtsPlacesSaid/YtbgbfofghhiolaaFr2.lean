/-
  An array of two integers that came in.
-/
import Derived.Test.YtbgbfofghhiolaaFrm
namespace Go.Proofs.Ytbgbfofghhiolaa
open Go.ChangeShapes Go.WideShapes Go.ChangeAt Go.RowKit
set_option linter.unusedVariables false

theorem open_ints2 {H : Type} {enc : TypeId × Value → H} {W : World} {base b0 : Nat} {sp : Nat → Bool} {held : Bool} {v : Value} {d : DataW H} {p : List MemPlace} (_hv : Value.okWide Try.prog W .any b0 33 v)
    (h : DataW.Trod enc Try.prog W base sp held 33 v d p) : ∃ x y, v = .agg #[.int .i64 x, .int .i64 y] ∧ (Lit.int .i64 x).wf = true ∧ (Lit.int .i64 y).wf = true := by
  obtain ⟨fuel, hf⟩ := h
  obtain ⟨xs, m, rfl, hx, hl, hn, hel⟩ := DataW.trod_array (show Try.prog.underlying 33 = some (.array 2 3) by kernel_rfl) hf
  have c1 : Try.prog.cellsOf 3 = 1 := by kernel_rfl
  have c2 : Try.prog.cellsOf 33 = 2 := by kernel_rfl
  rw [c2] at hl
  have h0 := hel 0 (by omega)
  have h1 := hel 1 (by omega)
  rw [c1] at h0 h1
  match xs, hn, h0, h1 with
  | [a, b], _, h0, h1 =>
    obtain ⟨x, e1, _, w1⟩ := DataW.trod_int Try.underlying3 (show DataW.trod _ Try.prog W _ _ _ m 3 _ = some a from h0)
    obtain ⟨y, e2, _, w2⟩ := DataW.trod_int Try.underlying3 (show DataW.trod _ Try.prog W _ _ _ m 3 _ = some b from h1)
    have hv : v.cells.toList = [.int .i64 x, .int .i64 y] := by
      generalize v.cells.toList = l at *
      match l, hl, e1, e2 with
      | [c, d], _, e1, e2 =>
        simp at e1 e2
        rw [e1, e2]
    refine ⟨x, y, ?_, w1, w2⟩
    cases v with
    | agg cs =>
      simp only [Value.cells] at hv
      congr 1
      cases cs
      simp_all
    | _ => simp [Value.cells] at hv
end Go.Proofs.Ytbgbfofghhiolaa
