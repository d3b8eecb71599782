/-
  The program's digester: how it lies in memory, what it has taken in so far, and what its parts read as.
-/
import Derived.Test.YtbofikghcoalbaaDoorSdNw
import Derived.Test.YtbofikghcoalbaaDoorSbSu
import Derived.Laws.CopyOwn
namespace Go.Proofs.YtbofikghcoalbaaDoor.S4
open Go.RowKit
set_option linter.unusedVariables false
set_option linter.unusedSimpArgs false

/-- What was there, block g aside, is as it was; there may be more. -/
structure Chg (g : Nat) (a b : World) : Prop where
  os : b.os = a.os
  tape : b.tape = a.tape
  output : b.output = a.output
  size : a.heap.size ≤ b.heap.size
  block : ∀ k, k < a.heap.size → k ≠ g → b.heap[k]? = a.heap[k]?
section
variable {g : Nat} {a b c : World}
theorem Chg.refl (g : Nat) (a : World) : Chg g a a := ⟨rfl, rfl, rfl, Nat.le_refl _, fun _ _ _ => rfl⟩
theorem Chg.trans (h : Chg g a b) (k : Chg g b c) : Chg g a c :=
  ⟨k.os.trans h.os, k.tape.trans h.tape, k.output.trans h.output, Nat.le_trans h.size k.size, fun i hi hn => (k.block i (by have := h.size; omega) hn).trans (h.block i hi hn)⟩
theorem Chg.of (g : Nat) (h : Grown a b) : Chg g a b := ⟨h.os, h.tape, h.output, h.size, fun k hk _ => h.block k hk⟩
theorem Chg.setCell (g : Nat) (w : World) (i : Nat) (v : Value) : Chg g w (w.setCell ⟨g, i, none⟩ v) := ⟨rfl, rfl, rfl, by simp, fun k _ hk => Below.heap_setCell w _ v k hk⟩
theorem Chg.setRow (g : Nat) (w : World) (cs : Array Value) : Chg g w (w.setRow g cs) := ⟨rfl, rfl, rfl, by simp [World.setRow], fun k _ hk => setRow_far hk⟩
theorem Chg.cell (h : Chg g a b) {p : Addr} (hp : p.block < a.heap.size) (hn : p.block ≠ g) : b.cell? p = a.cell? p := World.cell?_of_block (h.block p.block hp hn)
theorem Chg.rd (h : Chg g a b) {A : Option Addr} {l : List UInt8} (hr : Rd a a.heap.size A l) (hs : l ≠ [] → ∀ x, A = some x → x.block ≠ g) : Rd b b.heap.size A l := by
  by_cases hl : l = []
  · exact .inl hl
  · obtain ⟨k, off, e, hk, hc⟩ := hr.resolve_left hl
    exact .inr ⟨k, off, e, Nat.lt_of_lt_of_le hk h.size, fun j hj => (h.cell (p := ⟨k, off + j, none⟩) hk (by have := hs hl _ e; exact this)).trans (hc j hj)⟩
theorem Chg.kt (h : Chg g a b) (hk : Kt a) (hg : g ≠ 1) : Kt b := fun j hj => by
  have := hk j hj
  rw [h.cell (World.block_lt_of_cell? a _ this) (fun e => hg e.symm)]
  exact this
theorem Chg.below (h : Chg g a b) {B : Nat} {w : World} (hb : Below B w a) (hB : B ≤ w.heap.size) (hg : B ≤ g) : Below B w b :=
  ⟨h.os.trans hb.os, h.tape.trans hb.tape, h.output.trans hb.output, Nat.le_trans hb.size h.size, fun k hk => (h.block k (by have := hb.size; omega) (by omega)).trans (hb.block k hk)⟩
end
/-- The cells of a digester: its value, its block, how much of the block is held. -/
def dgl (v : St) (buf : List UInt8) (h : Nat) : List Value := wvs v.l ++ (bvs buf ++ [.int .i64 (h : Int)])
def Dg (w : World) (g : Nat) (v : St) (buf : List UInt8) (h : Nat) : Prop := w.heap[g]? = some (.cells (dgl v buf h).toArray 53 (0, 0)) ∧ buf.length = 128
theorem dgl_len (v : St) (buf : List UInt8) (h : Nat) (hb : buf.length = 128) : (dgl v buf h).length = 137 := by simp [dgl, wvs, bvs, St.l, hb]
section
variable {w w' : World} {g : Nat} {v : St} {buf : List UInt8} {h : Nat}
theorem Dg.grow (d : Dg w g v buf h) (hg : Grown w w') : Dg w' g v buf h := ⟨(hg.block _ (lt_of_heap d.1)).trans d.1, d.2⟩
theorem Dg.lt (d : Dg w g v buf h) : g < w.heap.size := lt_of_heap d.1
theorem Dg.cell (d : Dg w g v buf h) (i : Nat) : w.cell? ⟨g, i, none⟩ = (dgl v buf h)[i]? := by
  rw [cell_of_row w _ i _ _ _ d.1]; simp
theorem Dg.held (d : Dg w g v buf h) : w.cell? ⟨g, 136, none⟩ = some (.int .i64 (h : Int)) := by
  rw [d.cell, dgl, List.getElem?_append_right (by simp [wvs, St.l]), List.getElem?_append_right (by simp [wvs, bvs, St.l, d.2])]
  simp [wvs, bvs, St.l, d.2]
theorem Dg.value (d : Dg w g v buf h) : w.rangeAt g 0 (wvs v.l) := fun j u hu => by
  have hj := (List.getElem?_eq_some_iff.1 hu).1
  rw [Nat.zero_add, d.cell, dgl, List.getElem?_append_left hj]; exact hu
theorem Dg.block (d : Dg w g v buf h) : w.rangeAt g 8 (bvs buf) := fun j u hu => by
  have hj := (List.getElem?_eq_some_iff.1 hu).1
  have h8 : (wvs v.l).length = 8 := by simp [wvs, St.l]
  rw [d.cell, dgl, List.getElem?_append_right (by omega), h8, Nat.add_sub_cancel_left, List.getElem?_append_left hj]; exact hu
theorem Dg.free (d : Dg w g v buf h) (i : Nat) : w.frozen? ⟨g, i, none⟩ = false := frozen_of_row w _ i _ _ d.1
theorem Dg.hold (d : Dg w g v buf h) (h' : Nat) : Dg (w.setCell ⟨g, 136, none⟩ (.int .i64 (h' : Int))) g v buf h' := by
  refine ⟨?_, d.2⟩
  rw [heap_setCell_same w g 136 _ _ _ d.1]
  have h8 : (wvs v.l).length = 8 := by simp [wvs, St.l]
  have h64 : (bvs buf).length = 128 := by simp [bvs, d.2]
  congr 2
  simp only [List.setIfInBounds_toArray, dgl]
  congr 1
  rw [List.set_append_right _ _ (by omega), List.set_append_right _ _ (by omega), h8, h64]
  rfl
end
/-- What the digester has taken in: whole blocks, and the beginning of the next. -/
def Ate (T : List UInt8) (v : St) (p : List UInt8) : Prop := ∃ m X, X.length = 128 * m ∧ T = X ++ p ∧ p.length < 128 ∧ v = sumSt H0 m X
theorem sumSt_snoc (m : Nat) : ∀ (s : St) (X y : List UInt8), X.length = 128 * m → y.length = 128 → sumSt s (m + 1) (X ++ y) = blk (sumSt s m X) y := by
  induction m with
  | zero =>
    intro s X y hX hy
    obtain rfl : X = [] := List.eq_nil_of_length_eq_zero (by omega)
    simp [sumSt, hy, List.take_of_length_le]
  | succ m ih =>
    intro s X y hX hy
    rw [sumSt, List.take_append_of_le_length (by omega), List.drop_append_of_le_length (by omega), ih _ _ _ (by rw [List.length_drop]; omega) hy]
    rfl
theorem Ate.start : Ate [] H0 [] := ⟨0, [], rfl, rfl, by simp, rfl⟩
theorem Ate.some {T p q : List UInt8} {v : St} (h : Ate T v p) (hq : p.length + q.length < 128) : Ate (T ++ q) v (p ++ q) := by
  obtain ⟨m, X, hX, rfl, hp, rfl⟩ := h
  exact ⟨m, X, hX, by simp, by simpa using hq, rfl⟩
theorem Ate.full {T p q : List UInt8} {v : St} (h : Ate T v p) (hq : p.length + q.length = 128) : Ate (T ++ q) (blk v (p ++ q)) [] := by
  obtain ⟨m, X, hX, rfl, hp, rfl⟩ := h
  exact ⟨m + 1, X ++ (p ++ q), by simp; omega, by simp, by simp, (sumSt_snoc m H0 X _ hX (by simpa using hq)).symm⟩
theorem Ate.sum {l p : List UInt8} {v : St} (h : Ate (padL l) v p) : v = sumV l := by
  obtain ⟨m, X, hX, e, hp, rfl⟩ := h
  have h1 := pad_len l
  rw [e, List.length_append] at h1
  obtain rfl : p = [] := List.eq_nil_of_length_eq_zero (by omega)
  rw [List.append_nil] at e
  rw [sumV, e, hX, Nat.mul_div_cancel_left _ (by omega)]
theorem i137 : (Tryd.prog.info? 53).map (·.size) = some 137 := by kernel_rfl
theorem splice_take (buf lb p : List UInt8) (h k : Nat) (hb : buf.length = 128) (hp : buf.take h = p) (hk : h + k ≤ 128) (hl : k ≤ lb.length) : (splice buf h (lb.take k)).take (h + k) = p ++ lb.take k := by
  have h1 : (buf.take h).length = h := by rw [List.length_take]; omega
  have h2 : (lb.take k).length = k := by rw [List.length_take]; omega
  rw [splice, List.take_append, h1, List.take_of_length_le (by omega), hp, show h + k - h = k by omega, List.take_append_of_le_length (by omega), List.take_of_length_le (by omega)]
theorem wpList_copyD {w : World} {ops : Array Oper} {rest : List Oper} {o : Oper} {a : Act} {Q : Exit → Act → World → Prop} (hgd : o.guard = none) (d s : Operand)
    (ho : o.op = .call { callee := .builtin .copy, args := #[d, s], argTypes := #[22, 22] })
    {g off h dLen dCap m c2 B : Nat} {v : St} {buf : List UInt8} {A2 : Option Addr} {lb : List UInt8} (hd : a.eval d = .slice (some ⟨g, off, none⟩) dLen dCap) (hoff : off = 8 + h) (hs : a.eval s = .slice A2 m c2)
    (hg : Dg w g v buf h) (hr : Rd w B A2 lb) (hm : lb.length = m) (h0 : 0 < m) (hdl : h + dLen = 128) (k : Nat) (hk3 : k = min m dLen)
    (hk : ∀ w', Dg w' g v (splice buf h (lb.take k)) h → Chg g w w' → wpList Tryd.prog ops Q rest (a.put o.dst (.int .i64 (k : Int))) w') :
    wpList Tryd.prog ops Q (o :: rest) a w := by
  subst hoff
  obtain ⟨b, off, rfl, hb, hc⟩ := hr.resolve_left (by rintro rfl; simp at hm; omega)
  have hkl : (lb.take k).length = k := by rw [List.length_take]; omega
  have h64 := hg.2
  have h8 : (wvs v.l).length = 8 := by simp [wvs, St.l]
  have hbl : (bvs buf).length = 128 := by simp [bvs, h64]
  obtain ⟨i0, hi, hz0, hz1, hz2⟩ := info_parts info5
  have key := wpList_copy_own (P := Tryd.prog) (w := w) (ops := ops) (rest := rest) (o := o) (a := a) (Q := Q) hgd d s 22 22 ho 5 Tryd.underlying22 (by rw [hi]; simp [hz1]) g (8 + h) dLen dCap ⟨b, off, none⟩ m c2 hd hs (dgl v buf h).toArray 53 hg.1 (bvs (lb.take k))
    (by rw [bvs_length, hkl, hk3]) (by
      intro j u hv
      have hj : j < (lb.take k).length := by
        have := (List.getElem?_eq_some_iff.1 hv).1
        simpa [bvs] using this
      have h3 := hc j (by rw [List.length_take] at hj; omega)
      simp only [bvs, List.getElem?_map, List.getElem?_eq_getElem hj, Option.map_some, Option.some.injEq] at hv
      rw [← hv, List.getElem_take]
      by_cases h0 : j = 0
      · subst h0; simpa [Addr.add] using h3
      · simpa [Addr.add, h0] using h3) (by rw [bvs_length, hkl]; simp only [List.size_toArray]; rw [dgl_len _ _ _ h64]; omega) (bvs_one _)
  apply key
  rw [show (goInt (bvs (lb.take k)).length : Value) = .int .i64 (k : Int) by rw [bvs_length, hkl]; rfl]
  refine hk _ ⟨?_, by rw [length_splice]; exact h64; rw [hkl]; omega⟩ (Chg.setRow g w _)
  rw [setRow_heap w g _ _ 53 _ hg.1]
  congr 2
  rw [bvs_length, hkl]
  congr 1
  simp only [dgl]
  rw [show 8 + h + k = 8 + (h + k) by omega, ← h8, List.take_length_add_append, List.drop_length_add_append, List.take_append_of_le_length (by omega), List.drop_append_of_le_length (by omega)]
  simp only [splice, bvs, List.map_append, List.map_take, List.map_drop, List.append_assoc]
  rw [hkl]
theorem wp_store_val {P : Program} {w : World} {o : Oper} {a : Act} {K : Act → World → Prop} {Q : Exit → Act → World → Prop} (t : TypeId) (x y : Operand) (ho : o.op = .store t x y)
    {g h : Nat} {v v' : St} {buf : List UInt8} (hx : a.eval x = .pointer (some ⟨g, 0, none⟩)) (hy : a.eval y = .agg (wvs v'.l).toArray) (hg : Dg w g v buf h) (hi : (P.info? t).map (·.size) = some 8)
    (hk : ∀ w', Dg w' g v' buf h → Chg g w w' → K (a.put o.dst undef) w') : o.wp P a w K Q := by
  have h8 : (wvs v.l).length = 8 := by simp [wvs, St.l]
  have h8' : (wvs v'.l).length = 8 := by simp [wvs, St.l]
  have hst := run_storeCells_at P g 0 53 (wvs v'.l) 0 (dgl v buf h).toArray w hg.1 (by simp only [List.size_toArray]; rw [dgl_len _ _ _ hg.2, h8']; omega) (wvs_one _)
  have hr : (storeVar t ⟨g, 0, none⟩ (.agg (wvs v'.l).toArray)).run P w = .ok () (w.setRow g (dgl v' buf h).toArray) := by
    cases hq : P.info? t with
    | none => simp [hq] at hi
    | some i =>
      have hs : i.size = 8 := by simpa [hq] using hi
      simp [storeVar, sizeOf, typeInfo, hq, Value.cells, hs, h8', hst]
      simp [dgl, h8]
  unfold Oper.wp execOp
  simp only [ho, hx, hy, Instr.storeAt, Instr.sureAddr, Sem.run_bind, Sem.run_pure, Result.andThen_ok, hr]
  exact hk _ ⟨setRow_heap w g _ _ _ _ hg.1, hg.2⟩ (Chg.setRow g w _)
end Go.Proofs.YtbofikghcoalbaaDoor.S4
