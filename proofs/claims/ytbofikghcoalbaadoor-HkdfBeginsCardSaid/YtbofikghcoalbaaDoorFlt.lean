/-
  Pieces put together, one after another.
-/
import Derived.Test.YtbofikghcoalbaaDoorRdl
namespace Go.Proofs.YtbofikghcoalbaaDoor
open Go.RowKit
set_option linter.unusedVariables false

theorem flat_take (ls : List (List UInt8)) (k : Nat) (h : k < ls.length) : (ls.take k).flatten ++ ls[k] = (ls.take (k + 1)).flatten := by
  rw [List.take_succ_eq_append_getElem h]; simp only [List.flatten_append, List.flatten_cons, List.flatten_nil, List.append_nil]
theorem flat_le (ls : List (List UInt8)) (k : Nat) : (ls.take k).flatten.length ≤ ls.flatten.length := by
  have h : ls.flatten = (ls.take k).flatten ++ (ls.drop k).flatten := by rw [← List.flatten_append, List.take_append_drop]
  rw [h]; simp
theorem piece_le (ls : List (List UInt8)) (k : Nat) (h : k < ls.length) : ls[k].length ≤ ls.flatten.length := by
  have h1 := flat_le ls (k + 1)
  rw [← flat_take ls k h] at h1
  simp at h1; simp; omega
end Go.Proofs.YtbofikghcoalbaaDoor
