/-
  Hexadecimal digits, as lists of bytes.
-/
import Derived.Test.YtbgbfofghhiolaaMath
namespace Go.Proofs.Ytbgbfofghhiolaa
open Go.RowKit
set_option linter.unusedVariables false

def digs : List UInt8 := [48, 49, 50, 51, 52, 53, 54, 55, 56, 57, 97, 98, 99, 100, 101, 102]
def hd (i : Nat) : UInt8 := digs.getD i 0
def hexL (l : List UInt8) : List UInt8 := l.flatMap fun x => [hd (x.toNat / 16), hd (x.toNat % 16)]

theorem hexL_take (l : List UInt8) (k : Nat) (h : k < l.length) : hexL (l.take k) ++ [hd (l[k].toNat / 16), hd (l[k].toNat % 16)] = hexL (l.take (k + 1)) := by
  rw [take_snoc l k h]; simp only [hexL, List.flatMap_append, List.flatMap_cons, List.flatMap_nil, List.append_nil]
theorem hexL_len (l : List UInt8) : (hexL l).length = 2 * l.length := by
  induction l with
  | nil => rfl
  | cons x l ih => simp only [hexL, List.flatMap_cons, List.length_append, List.length_cons, List.length_nil] at *; omega
end Go.Proofs.Ytbgbfofghhiolaa
