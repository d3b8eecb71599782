/-
  What the laws of xts ask of the program, and what they share.
-/
import Derived.Test.YtbgbfofghhiolaaXtR
import Derived.Test.YtbgbfofghhiolaaGrq
import Derived.Test.YtbgbfofghhiolaaRhx
namespace Go.Proofs.Ytbgbfofghhiolaa.S8
open Go.RowKit
open Go.Proofs.Ytbgbfofghhiolaa.S7 hiding intOf
set_option linter.unusedVariables false
set_option linter.unusedSimpArgs false

/-- What a call that is refused, or answered with bytes, leaves. -/
def NoX (w : World) (e : Ending) (w' : World) : Prop := ∃ A c, e = .returned (.tuple #[.slice A 0 c, .int .i64 2]) ∧ Grown w w'
def GivesX (w : World) (bl : Nat) (l : List UInt8) (e : Ending) (w' : World) : Prop := ∃ A c, e = .returned (.tuple #[.slice A bl c, .int .i64 0]) ∧ l.length = bl ∧ bl ≤ c ∧ c ≤ maxLen ∧ Rd w' w'.heap.size A l ∧ Grown w w'
def wK1 (k : List UInt8) : List UInt8 := keysL (k.take 32)
def wK2 (k : List UInt8) : List UInt8 := keysL (k.drop 32)
/-- The contract of one of the two functions: refused, answered. -/
def NoAt (f : FuncId) : Prop := ∀ (A B : Option Addr) (kl c bl d : Nat) (n : Int) (k b : List UInt8) (w : World), k.length = kl → kl ≤ c → c ≤ maxLen → Rd w w.heap.size A k → -9223372036854775808 ≤ n → n < 9223372036854775808 → b.length = bl → bl ≤ d → d ≤ maxLen → Rd w w.heap.size B b → ¬ okX kl n bl →
  Calls Try.prog f #[.slice A kl c, .int .i64 n, .slice B bl d] w (NoX w)
def OkAt (f : FuncId) (g : List UInt8 → List UInt8 → Nat → List UInt8 → Nat → List UInt8) : Prop := ∀ (A B : Option Addr) (c bl d n kb : Nat) (k b : List UInt8) (w : World), k.length = 64 → 64 ≤ c → c ≤ maxLen → Rd w w.heap.size A k → n < 9223372036854775808 → b.length = bl → bl = 16 * kb → 1 ≤ kb → kb ≤ 64 → bl ≤ d → d ≤ maxLen → Rd w w.heap.size B b →
  Calls Try.prog f #[.slice A 64 c, .int .i64 (n : Int), .slice B bl d] w (GivesX w bl (g (wK1 k) (wK2 k) n b kb))
abbrev EncNo : Prop := NoAt 7
abbrev DecNo : Prop := NoAt 8
abbrev EncOk : Prop := OkAt 7 xtE
abbrev DecOk : Prop := OkAt 8 xtD
def z64 : List UInt8 := List.replicate 64 0
def z63 : List UInt8 := List.replicate 63 0
theorem mk_row (k : Nat) (hk : k ≤ 100000) (Z : Array Value) (hZ : Z = (bvs (List.replicate k 0)).toArray) (W : World) : (Instr.makeSlice 22 (.int .i64 (k : Int)) (.int .i64 (k : Int))).run Try.prog W = .ok (.slice (some ⟨W.heap.size, 0, none⟩) k k) (W.alloc (.cells Z 5)) := by
  rw [hZ]; exact mk22 k (by omega) W
theorem row_rd (w : World) (l : List UInt8) (Z : Array Value) (hZ : Z = (bvs l).toArray) {w' : World} (hg : Grown (w.alloc (.cells Z 5)) w') : Rd w' w'.heap.size (some ⟨w.heap.size, 0, none⟩) l := by
  subst hZ
  exact Rd.grow ((Row.new w l).rd (by simp)) hg
theorem hex_xts : (hexL ((xtE (wK1 z64) (wK2 z64) 0 z32 2).take 16)).toArray = #[100, 52, 53, 54, 98, 52, 102, 99, 50, 101, 54, 50, 48, 98, 98, 97, 54, 102, 102, 98, 101, 100, 50, 55, 98, 57, 53, 54, 99, 57, 53, 52] := by
  have h := xtE_take (wK1 z64) (wK2 z64) 0 z32 2 1 (by omega)
  rw [show 16 * 1 = 16 from rfl] at h
  rw [h, show wK1 z64 = keysL z32 from rfl, show wK2 z64 = keysL z32 from rfl, show z32.take 16 = z16 from rfl, example_xts]
  rfl
end Go.Proofs.Ytbgbfofghhiolaa.S8
