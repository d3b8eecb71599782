/-
  A whole array stored into a block that was made last, or last but one. Arrays of bytes of any length in blocks of their own; two oracles side by side.
-/
import Derived.Test.YtjklgmhaebjjaaaGreatMgOidealMain3
import Derived.Test.YtjklgmhaebjjaaaGreatMgOidealMain27
import Derived.Deep.WholeRow
import Derived.Deep.MidRow
namespace Go.Proofs.YtjklgmhaebjjaaaGreat
open Go.RowKit
set_option linter.unusedVariables false

theorem setRow_alloc_old (w : World) (c c' : Array Value) (t : TypeId) (o : Obj) : ((w.alloc (.cells c t)).alloc o).setRow w.heap.size c' = (w.alloc (.cells c' t)).alloc o := by
  simp only [World.setRow, World.alloc]
  congr 1
  apply Array.ext_getElem?
  intro i
  rw [Array.getElem?_modify]
  by_cases h : w.heap.size = i
  · subst h
    simp [Array.getElem?_push]
  · have h' : ¬ i = w.heap.size := fun e => h e.symm
    simp [h, h', Array.getElem?_push]
section
variable {P : Program} {W : World} {ops : Array Oper} {rest : List Oper} {o : Oper} {a : Act} {Q : Exit → Act → World → Prop}
theorem wpList_store_last (hgd : o.guard = none) (t : TypeId) (x y : Operand) (ho : o.op = .store t x y) {c c' : Array Value} (hx : a.eval x = .pointer (some ⟨W.heap.size, 0, none⟩)) (hy : a.eval y = .agg c')
    (hi : (P.info? t).map (·.size) = some c'.size) (hs : c.size = c'.size) (h1 : c'.all (·.oneCell') = true)
    (h : wpList P ops Q rest (a.put o.dst undef) (W.alloc (.cells c' t))) : wpList P ops Q (o :: rest) a (W.alloc (.cells c t)) := by
  refine wpList_plain hgd fun K hK => ?_
  unfold Oper.wp execOp
  simp only [ho, hx, hy, Sem.run_bind, Sem.run_pure, Result.andThen_ok, run_storeAt_new W t c c' hi hs h1]
  exact hK _ _ h
theorem wpList_store_prev (hgd : o.guard = none) (t : TypeId) (x y : Operand) (ho : o.op = .store t x y) {c c' : Array Value} {ob : Obj} (hx : a.eval x = .pointer (some ⟨W.heap.size, 0, none⟩)) (hy : a.eval y = .agg c')
    (hi : (P.info? t).map (·.size) = some c'.size) (hs : c.size = c'.size) (h1 : c'.all (·.oneCell') = true)
    (h : wpList P ops Q rest (a.put o.dst undef) ((W.alloc (.cells c' t)).alloc ob)) : wpList P ops Q (o :: rest) a ((W.alloc (.cells c t)).alloc ob) := by
  refine wpList_plain hgd fun K hK => ?_
  have hg : ((W.alloc (.cells c t)).alloc ob).heap[W.heap.size]? = some (.cells c t (0, 0)) := (Below.heap_alloc _ ob _ (by simp)).trans (heap_alloc_new W _)
  have hr := run_storeVar_row (P := P) _ _ t t c c' hg hi hs h1
  rw [setRow_alloc_old] at hr
  unfold Oper.wp execOp
  simp only [ho, hx, hy, Instr.storeAt, Instr.sureAddr, Sem.run_bind, Sem.run_pure, Result.andThen_ok, hr]
  exact hK _ _ h
end
end Go.Proofs.YtjklgmhaebjjaaaGreat
namespace Go.Proofs.YtjklgmhaebjjaaaGreat.S12
open S11
open Go.RowKit
set_option linter.unusedVariables false
set_option linter.unusedSimpArgs false

/-- Block g holds the bytes l, as one of type t. -/
def Ba (w : World) (g : Nat) (t : TypeId) (l : List UInt8) : Prop := w.heap[g]? = some (.cells (bvs l).toArray t (0, 0))
section
variable {w w' : World} {g : Nat} {t : TypeId} {l : List UInt8}
theorem Ba.lt (h : Ba w g t l) : g < w.heap.size := lt_of_heap h
theorem Ba.grow (h : Ba w g t l) (hb : Grown w w') : Ba w' g t l := (hb.block g h.lt).trans h
theorem Ba.ch {F : Nat → Prop} (h : Ba w g t l) (hc : Ch F w w') (hf : ¬ F g) : Ba w' g t l := (hc.block g h.lt hf).trans h
theorem Ba.new (w : World) (t : TypeId) (l : List UInt8) : Ba (w.alloc (.cells (bvs l).toArray t)) w.heap.size t l := heap_alloc_new w _
theorem Ba.rd (h : Ba w g t l) : Rd w w.heap.size (some ⟨g, 0, none⟩) l := .inr ⟨g, 0, rfl, h.lt, fun j hj => by
  have := cell_of_row w g j _ t (0, 0) h
  rw [Nat.zero_add, this]
  simp [bvs, hj]⟩
theorem setRow_new {w : World} {g : Nat} {old cs : Array Value} {t : TypeId} {f : Nat × Nat} (h : w.heap[g]? = some (.cells old t f)) : (w.setRow g cs).heap[g]? = some (.cells cs t f) := by
  simp only [World.setRow, Array.getElem?_modify, if_pos, h, Option.map_some]
theorem setRow_other {w : World} {g k : Nat} {cs : Array Value} (hk : k ≠ g) : (w.setRow g cs).heap[k]? = w.heap[k]? := by
  simp only [World.setRow, Array.getElem?_modify, if_neg (Ne.symm hk)]
theorem Ba.row (h : Ba w g t l) (m : List UInt8) : Ba (w.setRow g (bvs m).toArray) g t m := setRow_new h
theorem below_setRow {B : Nat} {a w : World} (h : Below B a w) {g : Nat} (hg : B ≤ g) (cs : Array Value) : Below B a (w.setRow g cs) :=
  ⟨h.os, h.tape, h.output, by simpa [World.setRow] using h.size, fun k hk => (setRow_other (by omega)).trans (h.block k hk)⟩
theorem ones (l : List UInt8) : (bvs l).toArray.all (·.oneCell') = true := by
  rw [Array.all_eq_true_iff_forall_mem]
  intro x hx
  exact bvs_one l x (by simpa using hx)
end
section
variable {op : Oper} {a : Act} {W : World} {K : Act → World → Prop} {Q : Exit → Act → World → Prop} {g n : Nat} {t : TypeId}
theorem wp_store_ba (hi : (Tryz.prog.info? t).map (·.size) = some n) (x y : Operand) (ho : op.op = .store t x y) (hx : a.eval x = .pointer (some ⟨g, 0, none⟩)) {L M : List UInt8} (hy : a.eval y = .agg (bvs M).toArray) (h : Ba W g t L) (hL : L.length = n) (hM : M.length = n) (hk : K (a.put op.dst undef) (W.setRow g (bvs M).toArray)) : op.wp Tryz.prog a W K Q := by
  have hr := run_storeVar_row (P := Tryz.prog) W g t t _ (bvs M).toArray h (by rw [hi]; simp [bvs, hM]) (by simp [bvs, hL, hM]) (ones M)
  unfold Oper.wp execOp
  simp only [ho, hx, hy, Instr.storeAt, Instr.sureAddr, Sem.run_bind, Sem.run_pure, Result.andThen_ok, hr]
  exact hk
theorem wp_load_ba {d : TypeDesc} (hu : Tryz.prog.underlying t = some d) (hd : d.isRow = true) (hi : (Tryz.prog.info? t).map (·.size) = some n) (x : Operand) (ho : op.op = .load t x) (hx : a.eval x = .pointer (some ⟨g, 0, none⟩)) {L : List UInt8} (h : Ba W g t L) (hL : L.length = n) (hk : K (a.put op.dst (.agg (bvs L).toArray)) W) : op.wp Tryz.prog a W K Q := by
  have hl := run_loadVar_row (P := Tryz.prog) W g t t (bvs L).toArray (0, 0) d h hu (by cases d <;> simp_all) (by rw [hi]; simp [bvs, hL])
  unfold Oper.wp execOp
  simp only [ho, hx, Instr.loadAt, Instr.sureAddr, Sem.run_bind, Sem.run_pure, Result.andThen_ok, hl]
  exact hk
variable {ops : Array Oper} {rest : List Oper}
theorem wpList_store_ba (hgd : op.guard = none) (hi : (Tryz.prog.info? t).map (·.size) = some n) (x y : Operand) (ho : op.op = .store t x y) (hx : a.eval x = .pointer (some ⟨g, 0, none⟩)) {L M : List UInt8} (hy : a.eval y = .agg (bvs M).toArray) (h : Ba W g t L) (hL : L.length = n) (hM : M.length = n) (hk : wpList Tryz.prog ops Q rest (a.put op.dst undef) (W.setRow g (bvs M).toArray)) : wpList Tryz.prog ops Q (op :: rest) a W :=
  wpList_plain hgd fun _ hK => wp_store_ba hi x y ho hx hy h hL hM (hK _ _ hk)
theorem wpList_load_ba (hgd : op.guard = none) {d : TypeDesc} (hu : Tryz.prog.underlying t = some d) (hd : d.isRow = true) (hi : (Tryz.prog.info? t).map (·.size) = some n) (x : Operand) (ho : op.op = .load t x) (hx : a.eval x = .pointer (some ⟨g, 0, none⟩)) {L : List UInt8} (h : Ba W g t L) (hL : L.length = n) (hk : wpList Tryz.prog ops Q rest (a.put op.dst (.agg (bvs L).toArray)) W) : wpList Tryz.prog ops Q (op :: rest) a W :=
  wpList_plain hgd fun _ hK => wp_load_ba hu hd hi x ho hx h hL (hK _ _ hk)
end

/-- Where the law stands: the program's oracle and the reference's, side by side, both behind B; the pair of them lies at block P. -/
structure Two (M : Mod) (O Q : Ob M) (B P G R : Nat) (w : World) (F F2 : Nat → Prop) (st st2 : M.σ) : Prop where
  p : O w G F st
  r : Q w R F2 st2
  apart : ∀ k, F k → ¬ F2 k
  pB : ∀ k, F k → B ≤ k
  rB : ∀ k, F2 k → B ≤ k
  bw : B ≤ w.heap.size
  cP : w.cell? ⟨P, 0, none⟩ = some (.pointer (some ⟨G, 0, none⟩))
  cR : w.cell? ⟨P, 1, none⟩ = some (.pointer (some ⟨R, 0, none⟩))
  lt : P < w.heap.size
  BP : B ≤ P
  nP : ¬ F P
  nR : ¬ F2 P
/-- A block of our own. -/
def Loc (w : World) (B : Nat) (F F2 : Nat → Prop) (g : Nat) : Prop := g < w.heap.size ∧ ¬ F g ∧ ¬ F2 g ∧ B ≤ g
section
variable {M : Mod} {O Q : Ob M} {B P G R g : Nat} {w w' : World} {F F2 F' : Nat → Prop} {st st2 st' : M.σ}
theorem Two.grow (KP : Kept B O) (KR : Kept B Q) (h : Two M O Q B P G R w F F2 st st2) (hg : Grown w w') : Two M O Q B P G R w' F F2 st st2 :=
  { h with
    p := KP.grow h.p h.bw hg
    r := KR.grow h.r h.bw hg
    bw := Nat.le_trans h.bw hg.size
    cP := (hg.cell (p := ⟨P, 0, none⟩) h.lt).trans h.cP
    cR := (hg.cell (p := ⟨P, 1, none⟩) h.lt).trans h.cR
    lt := Nat.lt_of_lt_of_le h.lt hg.size }
/-- A block that is neither's is written. -/
theorem Two.row (KP : Kept B O) (KR : Kept B Q) (h : Two M O Q B P G R w F F2 st st2) (hg : Loc w B F F2 g) (hP : g ≠ P) (cs : Array Value) : Two M O Q B P G R (w.setRow g cs) F F2 st st2 :=
  { h with
    p := KP.keep w _ G F st h.p (fun k hk => setRow_other (fun e => by subst e; rcases hk with hk | hk; exact hg.2.1 hk; have := hg.2.2.2; omega)) (by simp [World.setRow])
    r := KR.keep w _ R F2 st2 h.r (fun k hk => setRow_other (fun e => by subst e; rcases hk with hk | hk; exact hg.2.2.1 hk; have := hg.2.2.2; omega)) (by simp [World.setRow])
    bw := by simpa [World.setRow] using h.bw
    cP := (World.cell?_of_block (a := ⟨P, 0, none⟩) (setRow_other (Ne.symm hP))).trans h.cP
    cR := (World.cell?_of_block (a := ⟨P, 1, none⟩) (setRow_other (Ne.symm hP))).trans h.cR
    lt := by simpa [World.setRow] using h.lt }
/-- The program's has gone on. -/
theorem Two.stepP (KP : Kept B O) (KR : Kept B Q) (h : Two M O Q B P G R w F F2 st st2) (h1 : O w' G F' st') (h2 : ∀ k, F' k → F k ∨ w.heap.size ≤ k) (h3 : Ch F w w') : Two M O Q B P G R w' F' F2 st' st2 where
  p := h1
  r := KR.keep w w' R F2 st2 h.r (fun k hk => h3.block k (by rcases hk with hk | hk; exact KR.foot w R F2 st2 h.r k hk; have := h.bw; omega) (fun hf => by rcases hk with hk | hk; exact h.apart k hf hk; have := h.pB k hf; omega)) h3.size
  apart k hk hr := by
    rcases h2 k hk with h4 | h4
    · exact h.apart k h4 hr
    · have := KR.foot w R F2 st2 h.r k hr; omega
  pB k hk := by
    rcases h2 k hk with h4 | h4
    · exact h.pB k h4
    · exact Nat.le_trans h.bw h4
  rB := h.rB
  bw := Nat.le_trans h.bw h3.size
  cP := (h3.cell (p := ⟨P, 0, none⟩) h.lt h.nP).trans h.cP
  cR := (h3.cell (p := ⟨P, 1, none⟩) h.lt h.nP).trans h.cR
  lt := Nat.lt_of_lt_of_le h.lt h3.size
  BP := h.BP
  nP hk := by
    rcases h2 P hk with h4 | h4
    · exact h.nP h4
    · have := h.lt; omega
  nR := h.nR
/-- The reference's has gone on. -/
theorem Two.stepR (KP : Kept B O) (KR : Kept B Q) (h : Two M O Q B P G R w F F2 st st2) (h1 : Q w' R F' st') (h2 : ∀ k, F' k → F2 k ∨ w.heap.size ≤ k) (h3 : Ch F2 w w') : Two M O Q B P G R w' F F' st st' where
  p := KP.keep w w' G F st h.p (fun k hk => h3.block k (by rcases hk with hk | hk; exact KP.foot w G F st h.p k hk; have := h.bw; omega) (fun hf => by rcases hk with hk | hk; exact h.apart k hk hf; have := h.rB k hf; omega)) h3.size
  r := h1
  apart k hk hr := by
    rcases h2 k hr with h4 | h4
    · exact h.apart k hk h4
    · have := KP.foot w G F st h.p k hk; omega
  pB := h.pB
  rB k hk := by
    rcases h2 k hk with h4 | h4
    · exact h.rB k h4
    · exact Nat.le_trans h.bw h4
  bw := Nat.le_trans h.bw h3.size
  cP := (h3.cell (p := ⟨P, 0, none⟩) h.lt h.nR).trans h.cP
  cR := (h3.cell (p := ⟨P, 1, none⟩) h.lt h.nR).trans h.cR
  lt := Nat.lt_of_lt_of_le h.lt h3.size
  BP := h.BP
  nP := h.nP
  nR hk := by
    rcases h2 P hk with h4 | h4
    · exact h.nR h4
    · have := h.lt; omega
theorem Loc.grow (h : Loc w B F F2 g) (hs : w.heap.size ≤ w'.heap.size) : Loc w' B F F2 g := ⟨Nat.lt_of_lt_of_le h.1 hs, h.2⟩
theorem Loc.stepP (h : Loc w B F F2 g) (h2 : ∀ k, F' k → F k ∨ w.heap.size ≤ k) (hs : w.heap.size ≤ w'.heap.size) : Loc w' B F' F2 g :=
  ⟨Nat.lt_of_lt_of_le h.1 hs, fun hk => by
    rcases h2 g hk with h4 | h4
    · exact h.2.1 h4
    · have := h.1; omega, h.2.2⟩
theorem Loc.stepR (h : Loc w B F F2 g) (h2 : ∀ k, F' k → F2 k ∨ w.heap.size ≤ k) (hs : w.heap.size ≤ w'.heap.size) : Loc w' B F F' g :=
  ⟨Nat.lt_of_lt_of_le h.1 hs, h.2.1, fun hk => by
    rcases h2 g hk with h4 | h4
    · exact h.2.2.1 h4
    · have := h.1; omega, h.2.2.2⟩
/-- What was made last is our own. -/
theorem Two.locNew (KP : Kept B O) (KR : Kept B Q) (h : Two M O Q B P G R w F F2 st st2) (o : Obj) : Loc (w.alloc o) B F F2 w.heap.size ∧ w.heap.size ≠ P :=
  ⟨⟨by simp, fun hf => by have := KP.foot w G F st h.p _ hf; omega, fun hf => by have := KR.foot w R F2 st2 h.r _ hf; omega, h.bw⟩, fun e => by have := h.lt; omega⟩
/-- Bytes of the caller's, beside either footprint. -/
theorem Two.besP (h : Two M O Q B P G R w F F2 st st2) {A : Option Addr} {n c : Nat} {l : List UInt8} (hr : Rd w B A l) (hl : l.length = n) (hn : n ≤ c) : Bes w F A n c l := ⟨hr.more h.bw, hl, hn, off_below hr h.pB⟩
theorem Two.besR (h : Two M O Q B P G R w F F2 st st2) {A : Option Addr} {n c : Nat} {l : List UInt8} (hr : Rd w B A l) (hl : l.length = n) (hn : n ≤ c) : Bes w F2 A n c l := ⟨hr.more h.bw, hl, hn, off_below hr h.rB⟩
end
end Go.Proofs.YtjklgmhaebjjaaaGreat.S12
