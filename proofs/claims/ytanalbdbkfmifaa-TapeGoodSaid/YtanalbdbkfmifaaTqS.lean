/-
  The program's tables in memory: the struct, its tape, its four maps; what a store or a map's turn leaves.
-/
import Derived.Test.YtanalbdbkfmifaaTqC
import Derived.Test.YtanalbdbkfmifaaTpD
namespace Go.Proofs.Ytanalbdbkfmifaa.S11
open Go.RowKit
set_option linter.unusedVariables false
set_option linter.unusedSimpArgs false

/-- How an answer, a mark, a pair stands in a map. -/
def av (y : List UInt8) : Value := .agg #[.string ⟨y.toArray⟩]
def gv (_ : Unit) : Value := .agg #[]
/-- Where the four maps and the tape lie. -/
structure Lay where
  a : Nat
  g : Nat
  f : Nat
  b : Nat
  t : Option Nat
def Lay.side (L : Lay) (c : Bool) : Nat := if c then L.f else L.b
def LzV (A : Option Addr) (n c : Nat) (L : Lay) (bad : Bool) (cnt : Int) : Array Value := #[.slice A n c, .map (some L.a), .map (some L.g), .map (some L.f), .map (some L.b), .bool bad, .int .i64 cnt]
def FF (G : Nat) (L : Lay) (k : Nat) : Prop := k = G ∨ k = L.a ∨ k = L.g ∨ k = L.f ∨ k = L.b ∨ L.t = some k
abbrev MA := Ky → Option (List UInt8)
abbrev MG := Ky → Option Unit
abbrev MS := Ky → Option Ky
structure Lr (w : World) (G : Nat) (L : Lay) (A : Option Addr) (n c : Nat) (seed : List UInt8) (bad : Bool) (cnt : Int) (fa : MA) (fg : MG) (ff fb : MS) : Prop where
  hG : w.heap[G]? = some (.cells (LzV A n c L bad cnt) 53 (0, 0))
  hn : seed.length = n
  hc : n ≤ c
  ht : A.map (·.block) = L.t
  tl : ∀ k, L.t = some k → k < w.heap.size ∧ k ≠ G ∧ k ≠ L.a ∧ k ≠ L.g ∧ k ≠ L.f ∧ k ≠ L.b
  rd : Rd w w.heap.size A seed
  ma : Mp.Mp kv av w L.a fa
  mg : Mp.Mp kv gv w L.g fg
  mf : Mp.Mp kv kv w L.f ff
  mb : Mp.Mp kv kv w L.b fb
  d : L.a ≠ L.g ∧ L.a ≠ L.f ∧ L.a ≠ L.b ∧ L.g ≠ L.f ∧ L.g ≠ L.b ∧ L.f ≠ L.b
section
variable {w w' : World} {G : Nat} {L : Lay} {A : Option Addr} {n c : Nat} {seed : List UInt8} {bad : Bool} {cnt : Int} {fa : MA} {fg : MG} {ff fb : MS}
theorem Lr.lt (h : Lr w G L A n c seed bad cnt fa fg ff fb) : ∀ k, FF G L k → k < w.heap.size := by
  rintro k (rfl | rfl | rfl | rfl | rfl | hk)
  · exact lt_of_heap h.hG
  · exact h.ma.lt
  · exact h.mg.lt
  · exact h.mf.lt
  · exact h.mb.lt
  · exact (h.tl k hk).1
theorem Lr.rdk (h : Lr w G L A n c seed bad cnt fa fg ff fb) (hk : ∀ k, L.t = some k → w'.heap[k]? = w.heap[k]?) (hs : w.heap.size ≤ w'.heap.size) : Rd w' w'.heap.size A seed := by
  rcases h.rd with h1 | ⟨b, off, e, hb, hc⟩
  · exact .inl h1
  · have ht := h.ht
    rw [e] at ht
    exact .inr ⟨b, off, e, by omega, fun j hj => by rw [World.cell?_of_block (a := ⟨b, off + j, none⟩) (hk b ht.symm)]; exact hc j hj⟩
theorem Lr.keep (h : Lr w G L A n c seed bad cnt fa fg ff fb) (hk : ∀ k, FF G L k → w'.heap[k]? = w.heap[k]?) (hs : w.heap.size ≤ w'.heap.size) : Lr w' G L A n c seed bad cnt fa fg ff fb :=
  ⟨(hk G (.inl rfl)).trans h.hG, h.hn, h.hc, h.ht, fun k hk2 => ⟨by have := (h.tl k hk2).1; omega, (h.tl k hk2).2⟩, h.rdk (fun k hk2 => hk k (.inr (.inr (.inr (.inr (.inr hk2)))))) hs, h.ma.keep (hk _ (.inr (.inl rfl))), h.mg.keep (hk _ (.inr (.inr (.inl rfl)))), h.mf.keep (hk _ (.inr (.inr (.inr (.inl rfl))))), h.mb.keep (hk _ (.inr (.inr (.inr (.inr (.inl rfl)))))), h.d⟩
theorem Lr.grow (h : Lr w G L A n c seed bad cnt fa fg ff fb) (hg : Grown w w') : Lr w' G L A n c seed bad cnt fa fg ff fb := h.keep (fun k hk => hg.block k (h.lt k hk)) hg.size
/-- A store into the struct. -/
theorem Lr.cell (h : Lr w G L A n c seed bad cnt fa fg ff fb) (j : Nat) (u : Value) {A2 : Option Addr} {n2 c2 : Nat} {seed2 : List UInt8} {bad2 : Bool} {cnt2 : Int} (hv : (LzV A n c L bad cnt).setIfInBounds j u = LzV A2 n2 c2 L bad2 cnt2) (hn : seed2.length = n2) (hc : n2 ≤ c2) (ht : A2.map (·.block) = L.t) (hr : Rd w w.heap.size A2 seed2) :
    Lr (w.setCell ⟨G, j, none⟩ u) G L A2 n2 c2 seed2 bad2 cnt2 fa fg ff fb := by
  have hne : ∀ k, k ≠ G → (w.setCell ⟨G, j, none⟩ u).heap[k]? = w.heap[k]? := fun k hk => heap_setCell_other w ⟨G, j, none⟩ k u (fun e => hk (by simpa using e))
  refine ⟨?_, hn, hc, ht, fun k hk => ⟨by simpa using (h.tl k hk).1, (h.tl k hk).2⟩, ?_, h.ma.keep (hne _ (h.ma.cells h.hG)), h.mg.keep (hne _ (h.mg.cells h.hG)), h.mf.keep (hne _ (h.mf.cells h.hG)), h.mb.keep (hne _ (h.mb.cells h.hG)), h.d⟩
  · rw [heap_setCell_same w G j _ _ _ h.hG, hv]
  · rcases hr with h1 | ⟨b, off, e, hb, hc⟩
    · exact .inl h1
    · rw [e] at ht
      exact .inr ⟨b, off, e, by simpa using hb, fun j hj => by rw [World.cell?_of_block (a := ⟨b, off + j, none⟩) (hne b (h.tl b ht.symm).2.1)]; exact hc j hj⟩
theorem Lr.setBad (h : Lr w G L A n c seed bad cnt fa fg ff fb) (b : Bool) : Lr (w.setCell ⟨G, 5, none⟩ (.bool b)) G L A n c seed b cnt fa fg ff fb := h.cell 5 _ rfl h.hn h.hc h.ht h.rd
theorem Lr.setCnt (h : Lr w G L A n c seed bad cnt fa fg ff fb) (k : Int) : Lr (w.setCell ⟨G, 6, none⟩ (.int .i64 k)) G L A n c seed bad k fa fg ff fb := h.cell 6 _ rfl h.hn h.hc h.ht h.rd
theorem Lr.setTape (h : Lr w G L A n c seed bad cnt fa fg ff fb) {A2 : Option Addr} {n2 c2 : Nat} {seed2 : List UInt8} (hn : seed2.length = n2) (hc : n2 ≤ c2) (ht : A2.map (·.block) = L.t) (hr : Rd w w.heap.size A2 seed2) : Lr (w.setCell ⟨G, 0, none⟩ (.slice A2 n2 c2)) G L A2 n2 c2 seed2 bad cnt fa fg ff fb := h.cell 0 _ rfl hn hc ht hr
theorem by_block {b : Nat} (hg : w.grownBy w' (some b)) (k : Nat) (hk : k < w.heap.size) (hne : k ≠ b) : w'.heap[k]? = w.heap[k]? := hg.block k hk (fun e => hne (by simpa using e))
/-- A map has turned. -/
theorem Lr.putA (h : Lr w G L A n c seed bad cnt fa fg ff fb) {fa' : MA} (hm : Mp.Mp kv av w' L.a fa') (hg : w.grownBy w' (some L.a)) : Lr w' G L A n c seed bad cnt fa' fg ff fb :=
  ⟨(by_block hg G (lt_of_heap h.hG) (fun e => h.ma.cells h.hG e.symm)).trans h.hG, h.hn, h.hc, h.ht, fun k hk2 => ⟨by have := (h.tl k hk2).1; have := hg.size; omega, (h.tl k hk2).2⟩, h.rdk (fun k hk => by_block hg k (h.tl k hk).1 (h.tl k hk).2.2.1) hg.size,
    hm, h.mg.keep (by_block hg _ h.mg.lt (fun e => h.d.1 e.symm)), h.mf.keep (by_block hg _ h.mf.lt (fun e => h.d.2.1 e.symm)), h.mb.keep (by_block hg _ h.mb.lt (fun e => h.d.2.2.1 e.symm)), h.d⟩
theorem Lr.putG (h : Lr w G L A n c seed bad cnt fa fg ff fb) {fg' : MG} (hm : Mp.Mp kv gv w' L.g fg') (hg : w.grownBy w' (some L.g)) : Lr w' G L A n c seed bad cnt fa fg' ff fb :=
  ⟨(by_block hg G (lt_of_heap h.hG) (fun e => h.mg.cells h.hG e.symm)).trans h.hG, h.hn, h.hc, h.ht, fun k hk2 => ⟨by have := (h.tl k hk2).1; have := hg.size; omega, (h.tl k hk2).2⟩, h.rdk (fun k hk => by_block hg k (h.tl k hk).1 (h.tl k hk).2.2.2.1) hg.size,
    h.ma.keep (by_block hg _ h.ma.lt (fun e => h.d.1 e)), hm, h.mf.keep (by_block hg _ h.mf.lt (fun e => h.d.2.2.2.1 e.symm)), h.mb.keep (by_block hg _ h.mb.lt (fun e => h.d.2.2.2.2.1 e.symm)), h.d⟩
theorem Lr.putF (h : Lr w G L A n c seed bad cnt fa fg ff fb) {ff' : MS} (hm : Mp.Mp kv kv w' L.f ff') (hg : w.grownBy w' (some L.f)) : Lr w' G L A n c seed bad cnt fa fg ff' fb :=
  ⟨(by_block hg G (lt_of_heap h.hG) (fun e => h.mf.cells h.hG e.symm)).trans h.hG, h.hn, h.hc, h.ht, fun k hk2 => ⟨by have := (h.tl k hk2).1; have := hg.size; omega, (h.tl k hk2).2⟩, h.rdk (fun k hk => by_block hg k (h.tl k hk).1 (h.tl k hk).2.2.2.2.1) hg.size,
    h.ma.keep (by_block hg _ h.ma.lt (fun e => h.d.2.1 e)), h.mg.keep (by_block hg _ h.mg.lt (fun e => h.d.2.2.2.1 e)), hm, h.mb.keep (by_block hg _ h.mb.lt (fun e => h.d.2.2.2.2.2 e.symm)), h.d⟩
theorem Lr.putB (h : Lr w G L A n c seed bad cnt fa fg ff fb) {fb' : MS} (hm : Mp.Mp kv kv w' L.b fb') (hg : w.grownBy w' (some L.b)) : Lr w' G L A n c seed bad cnt fa fg ff fb' :=
  ⟨(by_block hg G (lt_of_heap h.hG) (fun e => h.mb.cells h.hG e.symm)).trans h.hG, h.hn, h.hc, h.ht, fun k hk2 => ⟨by have := (h.tl k hk2).1; have := hg.size; omega, (h.tl k hk2).2⟩, h.rdk (fun k hk => by_block hg k (h.tl k hk).1 (h.tl k hk).2.2.2.2.2) hg.size,
    h.ma.keep (by_block hg _ h.ma.lt (fun e => h.d.2.2.1 e)), h.mg.keep (by_block hg _ h.mg.lt (fun e => h.d.2.2.2.2.1 e)), h.mf.keep (by_block hg _ h.mf.lt (fun e => h.d.2.2.2.2.2 e)), hm, h.d⟩
theorem Ch.by_ {F : Nat → Prop} {b : Nat} (hg : w.grownBy w' (some b)) (hb : F b) : Ch F w w' := ⟨hg.os, hg.tape, hg.output, hg.size, fun k hk hf => hg.block k hk (fun e => by simp only [Option.some.injEq] at e; exact hf (e ▸ hb))⟩
end
/-- The program's tables st lie at block G. -/
def Lm (w : World) (G : Nat) (L : Lay) (st : St) : Prop := ∃ A n c fa fg ff fb, Lr w G L A n c st.seed st.bad (st.cnt : Int) fa fg ff fb ∧ Tab4 st fa fg ff fb
def Lz : Tab := fun w G F st => ∃ L, Lm w G L st ∧ ∀ k, F k ↔ FF G L k
/-- What a call leaves that hands out the bytes l. -/
def OutL (w : World) (G : Nat) (L : Lay) (l : List UInt8) (st' : St) (e : Ending) (w' : World) : Prop :=
  ∃ A n c, e = .returned (.slice A n c) ∧ l.length = n ∧ n ≤ c ∧ Rd w' w'.heap.size A l ∧ (∀ x, A = some x → l ≠ [] → w.heap.size ≤ x.block) ∧ Lm w' G L st' ∧ Ch (FF G L) w w'
theorem lz_foot (w : World) (G : Nat) (F : Nat → Prop) (st : St) (h : Lz w G F st) : ∀ k, F k → k < w.heap.size := by
  obtain ⟨L, ⟨A, n, c, fa, fg, ff, fb, hr, _⟩, hF⟩ := h
  exact fun k hk => hr.lt k ((hF k).1 hk)
theorem lz_keep (w w' : World) (G : Nat) (F : Nat → Prop) (st : St) (h : Lz w G F st) (hk : ∀ k, F k → w'.heap[k]? = w.heap[k]?) (hs : w.heap.size ≤ w'.heap.size) : Lz w' G F st := by
  obtain ⟨L, ⟨A, n, c, fa, fg, ff, fb, hr, ht⟩, hF⟩ := h
  exact ⟨L, ⟨A, n, c, fa, fg, ff, fb, hr.keep (fun k h => hk k ((hF k).2 h)) hs, ht⟩, hF⟩
theorem outL_out {w : World} {G : Nat} {F : Nat → Prop} {L : Lay} {l : List UInt8} {st st' : St} {e : Ending} {w' : World} (hl : ∀ k, FF G L k → k < w.heap.size) (hF : ∀ k, F k ↔ FF G L k) (h : OutL w G L l st' e w') : Out Lz w G F l st' e w' := by
  obtain ⟨A, n, c, he, hn, hc, hrd, hnew, hm, hch⟩ := h
  exact ⟨A, n, c, F, he, hn, hc, hrd, fun x hx hne => ⟨hnew x hx hne, fun hf => by have := hl _ ((hF _).1 hf); have := hnew x hx hne; omega⟩, ⟨L, hm, hF⟩, fun k hk => .inl hk, ⟨hch.os, hch.tape, hch.output, hch.size, fun k hk hf => hch.block k hk (fun hf2 => hf ((hF k).2 hf2))⟩⟩
end Go.Proofs.Ytanalbdbkfmifaa.S11
