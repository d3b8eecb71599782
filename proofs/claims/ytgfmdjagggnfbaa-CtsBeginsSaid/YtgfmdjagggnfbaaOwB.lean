/-
  A slice of blocks of 16 bytes that a call owns: appended to, read.
-/
import Derived.Test.YtgfmdjagggnfbaaXtB
import Derived.Great.BuildSlice
namespace Go.Proofs.Ytgfmdjagggnfbaa.S9
open Go.RowKit
open Go.Proofs.Ytgfmdjagggnfbaa.S7 hiding intOf
open Go.Proofs.Ytgfmdjagggnfbaa.S8 (Br)
set_option linter.unusedVariables false
set_option linter.unusedSimpArgs false

theorem infoA16 : (Try.prog.info? 37).map (fun i => (i.zero, i.size, i.bytes)) = some (some (.agg (bvs zs16).toArray), 16, 16) := by kernel_rfl
/-- The slice (A, n, c) is owned, its blocks are the bytes l. -/
def OwnB (w : World) (base : Nat) (A : Option Addr) (c n : Nat) (l : List UInt8) : Prop := w.ownsRow base 37 16 (.slice A n c) n (bvs l)
section
variable {w w' : World} {base : Nat} {A : Option Addr} {c n : Nat} {l : List UInt8}
theorem OwnB.nil (w : World) (base : Nat) : OwnB w base none 0 0 [] := World.ownsRow_nil w base 37 16
theorem OwnB.form (h : OwnB w base A c n l) : l.length = n * 16 ∧ ((A = none ∧ n = 0 ∧ c = 0) ∨ ∃ g cur, A = some ⟨g, 0, none⟩ ∧ base ≤ g ∧ w.heap[g]? = some (.cells cur 37 (0, 0)) ∧ n ≤ c ∧ cur.toList.take (n * 16) = bvs l) := by
  refine ⟨by have := h.1; rwa [bvs_length] at this, ?_⟩
  rcases h.2 with ⟨h1, h2⟩ | ⟨g, cap, cur, h1, h2, h3, h4, _, _, h5⟩
  · simp only [Value.slice.injEq] at h1
    obtain ⟨rfl, _, rfl⟩ := h1
    exact .inl ⟨rfl, h2, rfl⟩
  · simp only [Value.slice.injEq] at h1
    obtain ⟨rfl, _, rfl⟩ := h1
    exact .inr ⟨g, cur, rfl, h2, h3, h4, h5⟩
/-- It stays where its block stays. -/
theorem OwnB.keep (h : OwnB w base A c n l) (hk : ∀ g, base ≤ g → g < w.heap.size → w'.heap[g]? = w.heap[g]?) : OwnB w' base A c n l := by
  refine ⟨h.1, ?_⟩
  rcases h.2 with h1 | ⟨g, cap, cur, h1, h2, h3, r⟩
  · exact .inl h1
  · exact .inr ⟨g, cap, cur, h1, h2, (hk g h2 (lt_of_heap h3)).trans h3, r⟩
theorem OwnB.grow (h : OwnB w base A c n l) (hb : Grown w w') : OwnB w' base A c n l := h.keep fun g _ hg => hb.block g hg
theorem OwnB.row (h : OwnB w base A c n l) {k : Nat} (hk : k < base) (cs : Array Value) : OwnB (w.setRow k cs) base A c n l := h.keep fun g hg _ => setRow_other w k g cs (by omega)
/-- Its block i may be read. -/
theorem OwnB.rd (h : OwnB w base A c n l) (i : Nat) (hi : i < n) : ∃ g, A = some ⟨g, 0, none⟩ ∧ Rd w w.heap.size (some ⟨g, 16 * i, none⟩) ((l.drop (16 * i)).take 16) := by
  obtain ⟨hl, h1⟩ := h.form
  rcases h1 with ⟨_, h2, _⟩ | ⟨g, cur, rfl, hg, hh, hc, ht⟩
  · omega
  · refine ⟨g, rfl, .inr ⟨g, 16 * i, rfl, lt_of_heap hh, fun j hj => ?_⟩⟩
    have hj16 : j < 16 := by simp at hj; omega
    have hp : 16 * i + j < l.length := by omega
    rw [cell_of_row w g (16 * i + j) cur _ (0, 0) hh]
    have h2 : (cur.toList.take (n * 16))[16 * i + j]? = some (bv (l[16 * i + j])) := by rw [ht]; simp [bvs, hp]
    rw [List.getElem?_take, if_pos (by omega)] at h2
    rw [← Array.getElem?_toList, h2]
    simp
end
theorem zeros16 : ((Array.range (1 * 16)).map ((Value.agg (bvs zs16).toArray).cells[· % (Value.agg (bvs zs16).toArray).cells.size]!)) = (bvs zs16).toArray := by kernel_rfl
theorem fill16 (b0 b1 b2 b3 b4 b5 b6 b7 b8 b9 b10 b11 b12 b13 b14 b15 : UInt8) : Instr.fill (fun i => some (i * 16, 16)) ((Array.range (1 * 16)).map ((Value.agg (bvs zs16).toArray).cells[· % (Value.agg (bvs zs16).toArray).cells.size]!)) #[(0, Value.agg (bvs [b0, b1, b2, b3, b4, b5, b6, b7, b8, b9, b10, b11, b12, b13, b14, b15]).toArray)].toList = some (bvs [b0, b1, b2, b3, b4, b5, b6, b7, b8, b9, b10, b11, b12, b13, b14, b15]).toArray := by
  rw [zeros16]
  simp [Instr.fill, bvs, bv, zs16, Value.cells, List.zipIdx]
/-- A slice literal of one block. -/
theorem build_one (R : List UInt8) (hR : R.length = 16) (W : World) : (Instr.buildSlice 52 1 #[(0, .agg (bvs R).toArray)]).run Try.prog W = .ok (.slice (some ⟨W.heap.size, 0, none⟩) 1 1) (W.alloc (.cells (bvs R).toArray 37)) := by
  obtain ⟨i0, hi, hz0, hz1, hz2⟩ := info_parts infoA16
  refine run_buildSlice W 52 37 1 _ _ i0 _ Try.underlying52 hi hz0 (by rw [hz1]; omega) (by rw [hz1]; omega) ?_
  rw [hz1]
  match R, hR with
  | [b0, b1, b2, b3, b4, b5, b6, b7, b8, b9, b10, b11, b12, b13, b14, b15], _ => exact fill16 _ _ _ _ _ _ _ _ _ _ _ _ _ _ _ _
theorem wpList_build_one {W : World} {ops : Array Oper} {rest : List Oper} {o : Oper} {a : Act} {Q : Exit → Act → World → Prop} (hgd : o.guard = none) (x : Operand) (ho : o.op = .buildSlice 52 1 #[(0, x)]) {R : List UInt8} (hx : a.eval x = .agg (bvs R).toArray) (hR : R.length = 16)
    (hk : wpList Try.prog ops Q rest (a.put o.dst (.slice (some ⟨W.heap.size, 0, none⟩) 1 1)) (W.alloc (.cells (bvs R).toArray 37))) : wpList Try.prog ops Q (o :: rest) a W := by
  refine wpList_plain hgd fun K hK => ?_
  unfold Oper.wp execOp
  simp only [ho, hx, Sem.run_bind, Sem.run_pure, Result.andThen_ok, List.map_toArray, List.map_cons, List.map_nil, build_one R hR]
  exact hK _ _ hk
/-- One block appended. -/
theorem run_appB {w : World} {base : Nat} {A : Option Addr} {c n : Nat} {l : List UInt8} (h : OwnB w base A c n l) {g2 : Nat} (c2 : Nat) {R : List UInt8} (h2 : Br w g2 R) (hR : R.length = 16) (hn : n ≤ 1000000) (hbase : base ≤ w.heap.size) (ty : TypeId) :
    ∃ A' c' w', (Builtin.append_ #[52, 52] ty #[.slice A n c, .slice (some ⟨g2, 0, none⟩) 1 c2]).run Try.prog w = .ok (.slice A' (n + 1) c') w' ∧ OwnB w' base A' c' (n + 1) (l ++ R) ∧ Below base w w' := by
  obtain ⟨i0, hi, hz0, hz1, hz2⟩ := info_parts infoA16
  have hcells : ∀ j u, (bvs R)[j]? = some u → w.cell? ((⟨g2, 0, none⟩ : Addr).add j) = some u := by
    intro j u hu
    have hj : j < R.length := by
      have := (List.getElem?_eq_some_iff.1 hu).1
      simpa [bvs] using this
    have h3 := h2.cell j hj
    simp [bvs, hj] at hu
    subst hu
    have e : (⟨g2, 0, none⟩ : Addr).add j = ⟨g2, j, none⟩ := by by_cases h0 : j = 0 <;> simp [Addr.add, h0]
    rw [e, h3]
    simp [bv, gt, hj]
  obtain ⟨v', w', hrun, hown', hg, hnil⟩ := run_append_own (P := Try.prog) w base 52 ty 37 i0 _ 16 16 Try.underlying52 hi hz0 hz1 hz2 (by simp [Value.cells, bvs, zs16]) (by omega) _ _ _ h ⟨g2, 0, none⟩ 1 c2 (bvs R) (by simp [bvs, hR]) hcells (bvs_one R)
    (by unfold maxLen; omega) (by omega) hbase
  have hv : ∃ A' c', v' = .slice A' (n + 1) c' := by
    rcases hown'.2 with ⟨h1, h3⟩ | ⟨g, cap, cur, h1, _⟩
    · omega
    · exact ⟨some ⟨g, 0, none⟩, cap, by rw [h1]⟩
  obtain ⟨A', c', rfl⟩ := hv
  refine ⟨A', c', w', hrun, ?_, ?_⟩
  · unfold OwnB
    rw [show bvs (l ++ R) = bvs l ++ bvs R by simp [bvs]]
    exact hown'
  · refine (Below.refl _ _).grown hg hbase fun k hk => ?_
    rcases h.form.2 with ⟨rfl, _⟩ | ⟨g, cur, rfl, hgb, _⟩
    · simp [Value.ownBlock] at hk
    · simp [Value.ownBlock] at hk; omega
theorem wpList_appB {w : World} {ops : Array Oper} {rest : List Oper} {o : Oper} {a : Act} {Q : Exit → Act → World → Prop} (hgd : o.guard = none) (s x : Operand) (ho : o.op = .call { callee := .builtin .append, args := #[s, x], argTypes := #[52, 52] })
    {base : Nat} {A : Option Addr} {c n : Nat} {l : List UInt8} (hs : a.eval s = .slice A n c) (h : OwnB w base A c n l) {g2 c2 : Nat} {R : List UInt8} (hx : a.eval x = .slice (some ⟨g2, 0, none⟩) 1 c2) (h2 : Br w g2 R) (hR : R.length = 16) (hn : n ≤ 1000000) (hbase : base ≤ w.heap.size)
    (hk : ∀ A' c' w', OwnB w' base A' c' (n + 1) (l ++ R) → Below base w w' → wpList Try.prog ops Q rest (a.put o.dst (.slice A' (n + 1) c')) w') : wpList Try.prog ops Q (o :: rest) a w := by
  refine wpList_plain hgd fun K hK => ?_
  obtain ⟨A', c', w', hrun, h3, h4⟩ := run_appB h c2 h2 hR hn hbase o.type
  unfold Oper.wp execOp
  simp only [ho, resolve, invoke, builtin, Sem.run_bind, Sem.run_pure, Result.andThen_ok, List.map_toArray, List.map_cons, List.map_nil, hs, hx, hrun]
  exact hK _ _ (hk A' c' w' h3 h4)
end Go.Proofs.Ytgfmdjagggnfbaa.S9
