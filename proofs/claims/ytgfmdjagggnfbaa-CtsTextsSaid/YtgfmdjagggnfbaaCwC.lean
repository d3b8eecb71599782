/-
  What the laws of cts ask of the program, and what they share.
-/
import Derived.Test.YtgfmdjagggnfbaaCtR
import Derived.Test.YtgfmdjagggnfbaaPdN
import Derived.Test.YtgfmdjagggnfbaaPdQ
import Derived.Test.YtgfmdjagggnfbaaSto
namespace Go.Proofs.Ytgfmdjagggnfbaa.S9
open Go.RowKit
open Go.Proofs.Ytgfmdjagggnfbaa.S7 hiding intOf
open Go.Proofs.Ytgfmdjagggnfbaa.S8 (Br sz16 on16 wr64 xorL xorL_len xor_xorL z16)
set_option linter.unusedVariables false
set_option linter.unusedSimpArgs false

/-- The cipher at block G, as an interface's value. -/
def iC (G : Nat) : Value := .iface 25 (.pointer (some ⟨G, 0, none⟩))
/-- What a call that is refused, or answered with bytes, leaves. -/
def NoC (w : World) (n : Int) (e : Ending) (w' : World) : Prop := ∃ A c, e = .returned (.tuple #[.slice A 0 c, .int .i64 n]) ∧ Grown w w'
def GivesC (w : World) (bl : Nat) (l : List UInt8) (e : Ending) (w' : World) : Prop := ∃ A c, e = .returned (.tuple #[.slice A bl c, .int .i64 0]) ∧ l.length = bl ∧ bl ≤ c ∧ c ≤ maxLen ∧ Rd w' w'.heap.size A l ∧ Grown w w'
/-- The contract of one of the two functions: no cipher, refused, answered. -/
def NilC (f : FuncId) : Prop := ∀ (B : Option Addr) (bl d : Nat) (b : List UInt8) (w : World), b.length = bl → bl ≤ d → d ≤ maxLen → Rd w w.heap.size B b → Calls Try.prog f #[.nilIface, .slice B bl d] w (NoC w 1)
def BadC (f : FuncId) : Prop := ∀ (G : Nat) (W : List UInt8) (B : Option Addr) (bl d : Nat) (b : List UInt8) (w : World), Ci w G W → b.length = bl → bl ≤ d → d ≤ maxLen → Rd w w.heap.size B b → (bl < 16 ∨ 256 < bl) →
  Calls Try.prog f #[.iface 25 (.pointer (some ⟨G, 0, none⟩)), .slice B bl d] w (NoC w 2)
def OkC (f : FuncId) (g : List UInt8 → List UInt8 → List UInt8) : Prop := ∀ (G : Nat) (W : List UInt8) (B : Option Addr) (bl d : Nat) (b : List UInt8) (w : World), Ci w G W → b.length = bl → bl ≤ d → d ≤ maxLen → Rd w w.heap.size B b → 16 ≤ bl → bl ≤ 256 →
  Calls Try.prog f #[.iface 25 (.pointer (some ⟨G, 0, none⟩)), .slice B bl d] w (GivesC w bl (g W b))
abbrev EncNil : Prop := NilC 8
abbrev EncBad : Prop := BadC 8
abbrev DecBad : Prop := BadC 9
abbrev EncFit : Prop := OkC 8 ctsE
abbrev DecFit : Prop := OkC 9 ctsD
theorem bk_piece {w : World} {g : Nat} {t : TypeId} {l : List UInt8} (h : Bk w g t l) {B : Nat} (hB : g < B) (o n : Nat) (hn : o + n ≤ l.length) : Rd w B (some ⟨g, o, none⟩) ((l.drop o).take n) :=
  .inr ⟨g, o, rfl, hB, fun j hj => by
    have hj2 : j < n := by simp at hj; omega
    rw [h.cell (o + j) (by omega)]
    simp [bv, gt, show o + j < l.length by omega]⟩
theorem bk_all {w : World} {g : Nat} {t : TypeId} {l : List UInt8} (h : Bk w g t l) {B : Nat} (hB : g < B) : Rd w B (some ⟨g, 0, none⟩) l := by
  have := bk_piece h hB 0 l.length (by omega)
  simpa using this
theorem mk_zero (k : Nat) (hk : k ≤ 100000) (Z : Array Value) (hZ : Z = (bvs (List.replicate k 0)).toArray) (W : World) : (Instr.makeSlice 23 (.int .i64 (k : Int)) (.int .i64 (k : Int))).run Try.prog W = .ok (.slice (some ⟨W.heap.size, 0, none⟩) k k) (W.alloc (.cells Z 5)) := by
  rw [hZ]; exact mk22 k (by omega) W
theorem made_rd (w : World) (l : List UInt8) (Z : Array Value) (hZ : Z = (bvs l).toArray) {w' : World} (hg : Grown (w.alloc (.cells Z 5)) w') : Rd w' w'.heap.size (some ⟨w.heap.size, 0, none⟩) l := by
  subst hZ
  exact Rd.grow ((Row.new w l).rd (by simp)) hg
theorem cts_zero (W : List UInt8) : ctsE W zs16 = encL W zs16 := by
  rw [ctsE_one W zs16 (by decide) (by decide)]
  show encL W (xorL (pb zs16 0) z16) = _
  rw [xor_z16 _ (pb_len _ _), show pb zs16 0 = zs16 by decide +kernel]
theorem slen (p : List UInt8) : (ByteArray.mk p.toArray).toList = p := by simp
theorem slbeq (p q : List UInt8) : ((ByteArray.mk p.toArray).toList == (ByteArray.mk q.toArray).toList) = decide (p = q) := by
  rw [slen, slen, Bool.eq_iff_iff]
  simp
end Go.Proofs.Ytgfmdjagggnfbaa.S9
