/-
  What the laws of tape ask of the program's tables, and the law's awake out of it.
-/
import Derived.Test.YtanalbdbkfmifaaTpP
namespace Go.Proofs.Ytanalbdbkfmifaa.S11
open Go.RowKit
set_option linter.unusedVariables false
set_option linter.unusedSimpArgs false

/-- The program's tables st lie at block G, in the blocks F: what that is, is the program's. -/
abbrev Tab := World → Nat → (Nat → Prop) → St → Prop
/-- A call that hands out the bytes l and leaves the tables st'. -/
def Out (Lz : Tab) (w : World) (G : Nat) (F : Nat → Prop) (l : List UInt8) (st' : St) (e : Ending) (w' : World) : Prop :=
  ∃ A n c F', e = .returned (.slice A n c) ∧ l.length = n ∧ n ≤ c ∧ Rd w' w'.heap.size A l ∧ (∀ x, A = some x → l ≠ [] → w.heap.size ≤ x.block ∧ ¬ F' x.block) ∧ Lz w' G F' st' ∧ (∀ k, F' k → F k ∨ w.heap.size ≤ k) ∧ Ch F w w'
def emp (seed : List UInt8) : St := ⟨seed, [], [], false, 0⟩
/-- So few that nothing overflows. -/
def Few (st : St) : Prop := st.fs.length ≤ 200 ∧ st.ps.length ≤ 200 ∧ st.cnt ≤ 400
structure TapeOk (Lz : Tab) : Prop where
  foot : ∀ w G F st, Lz w G F st → ∀ k, F k → k < w.heap.size
  keep : ∀ w w' G F st, Lz w G F st → (∀ k, F k → w'.heap[k]? = w.heap[k]?) → w.heap.size ≤ w'.heap.size → Lz w' G F st
  new : ∀ A n c seed w, Rd w w.heap.size A seed → seed.length = n → n ≤ c → n ≤ 2000 → Calls Try.prog 8 #[.slice A n c] w fun e w' =>
    ∃ G F, e = .returned (.pointer (some ⟨G, 0, none⟩)) ∧ Lz w' G F (emp seed) ∧ (∀ k, F k → w.heap.size ≤ k) ∧ Grown w w'
  draw : ∀ w G F st n, Lz w G F st → Few st → n ≤ 1000 → Calls Try.prog 14 #[.pointer (some ⟨G, 0, none⟩), .int .i64 n] w (Out Lz w G F (drOp st n).1 (drOp st n).2)
  func : ∀ w G F st name q n, Lz w G F st → Few st → name.length ≤ 1000 → q.length ≤ 1000 → n ≤ 1000 →
    Calls Try.prog 9 #[.pointer (some ⟨G, 0, none⟩), .string ⟨name.toArray⟩, .string ⟨q.toArray⟩, .int .i64 n] w (Out Lz w G F (fnOp st name q n).1 (fnOp st name q n).2)
  forw : ∀ w G F st name A n c s, Lz w G F st → Few st → name.length ≤ 1000 → n ≤ 1000 → s.length = n → n ≤ c → Rd w w.heap.size A s → (∀ x, A = some x → s ≠ [] → ¬ F x.block) →
    Calls Try.prog 11 #[.pointer (some ⟨G, 0, none⟩), .string ⟨name.toArray⟩, .slice A n c] w (Out Lz w G F (prOp st name s true).1 (prOp st name s true).2)
  back : ∀ w G F st name A n c s, Lz w G F st → Few st → name.length ≤ 1000 → n ≤ 1000 → s.length = n → n ≤ c → Rd w w.heap.size A s → (∀ x, A = some x → s ≠ [] → ¬ F x.block) →
    Calls Try.prog 13 #[.pointer (some ⟨G, 0, none⟩), .string ⟨name.toArray⟩, .slice A n c] w (Out Lz w G F (prOp st name s false).1 (prOp st name s false).2)
  bad : ∀ w G F st, Lz w G F st → Calls Try.prog 16 #[.pointer (some ⟨G, 0, none⟩)] w fun e w' => e = .returned (.bool st.bad) ∧ Grown w w'
  count : ∀ w G F st, Lz w G F st → Calls Try.prog 17 #[.pointer (some ⟨G, 0, none⟩)] w fun e w' => e = .returned (.int .i64 (st.cnt : Int)) ∧ Grown w w'
theorem TapeOk.grow {Lz : Tab} (K : TapeOk Lz) {w w' : World} {G : Nat} {F : Nat → Prop} {st : St} (h : Lz w G F st) (hg : Grown w w') : Lz w' G F st :=
  K.keep w w' G F st h (fun k hk => hg.block k (K.foot w G F st h k hk)) hg.size
theorem Ch.since {F : Nat → Prop} {w0 w w' : World} (hg : Grown w0 w) (h : Ch F w w') (hF : ∀ k, F k → w0.heap.size ≤ k) : Grown w0 w' :=
  ⟨h.os.trans hg.os, h.tape.trans hg.tape, h.output.trans hg.output, Nat.le_trans hg.size h.size, fun k hk => (h.block k (Nat.lt_of_lt_of_le hk hg.size) (fun hf => by have := hF k hf; omega)).trans (hg.block k hk)⟩
/-- The tables were made behind w0. -/
def Since (Lz : Tab) (w0 w : World) (G : Nat) (F : Nat → Prop) (st : St) : Prop := Lz w G F st ∧ (∀ k, F k → w0.heap.size ≤ k) ∧ Grown w0 w
theorem Since.grow {Lz : Tab} (K : TapeOk Lz) {w0 w w' : World} {G : Nat} {F : Nat → Prop} {st : St} (h : Since Lz w0 w G F st) (hg : Grown w w') : Since Lz w0 w' G F st := ⟨K.grow h.1 hg, h.2.1, Grown.trans h.2.2 hg⟩
theorem Since.step {Lz : Tab} {w0 w w' : World} {G : Nat} {F F' : Nat → Prop} {st st' : St} (h : Since Lz w0 w G F st) (h1 : Lz w' G F' st') (h2 : ∀ k, F' k → F k ∨ w.heap.size ≤ k) (h3 : Ch F w w') : Since Lz w0 w' G F' st' :=
  ⟨h1, fun k hk => by
    rcases h2 k hk with h4 | h4
    · exact h.2.1 k h4
    · exact Nat.le_trans h.2.2.size h4, Ch.since h.2.2 h3 h.2.1⟩
/-- The document's example. -/
def w1S : St := ⟨[3], [⟨[102], [113], [1, 2]⟩], [], false, 1⟩
def w2S : St := ⟨[], [⟨[102], [113], [1, 2]⟩], [⟨[112], [9], [3]⟩], false, 2⟩
theorem ex1 : fnOp (emp [1, 2, 3]) [102] [113] 2 = ([1, 2], w1S) := by rfl
theorem ex2 : fnOp w1S [102] [113] 2 = ([1, 2], w1S) := by rfl
theorem ex3 : prOp w1S [112] [9] true = ([3], w2S) := by rfl
theorem ex4 : prOp w2S [112] [3] false = ([9], w2S) := by rfl
theorem ex5 : (prOp w2S [112] [8] true).1 = [0] := by rfl
end Go.Proofs.Ytanalbdbkfmifaa.S11
