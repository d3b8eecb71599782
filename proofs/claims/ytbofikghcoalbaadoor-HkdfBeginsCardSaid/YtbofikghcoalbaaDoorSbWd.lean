/-
  Slices of words: what one reads as, one that a call itself owns, append of one word.
-/
import Derived.Test.YtbofikghcoalbaaDoorApp
import Derived.Test.YtbofikghcoalbaaDoorSbSp
import Derived.Laws.OwnMore
namespace Go.Proofs.YtbofikghcoalbaaDoor.S4
open Go.RowKit
set_option linter.unusedVariables false
set_option linter.unusedSimpArgs false

def wv (x : UInt64) : Value := .int .u64 (x.toNat : Int)
def wvs (l : List UInt64) : List Value := l.map wv
theorem wvs_length (l : List UInt64) : (wvs l).length = l.length := by simp [wvs]
theorem infoW : (Tryd.prog.info? 44).map (fun i => (i.zero, i.size, i.bytes)) = some (some (.int .u64 0), 1, 8) := by kernel_rfl
/-- The slice at A reads as the words l. -/
def RdW (w : World) (B : Nat) (A : Option Addr) (l : List UInt64) : Prop :=
  l = [] ∨ ∃ b off, A = some ⟨b, off, none⟩ ∧ b < B ∧ ∀ j (h : j < l.length), w.cell? ⟨b, off + j, none⟩ = some (wv l[j])
/-- The slice at A owns the words l, in a block from 'base' on. -/
def OwnW (w : World) (base : Nat) (A : Option Addr) (c : Nat) (l : List UInt64) : Prop := w.ownsRow base 44 1 (.slice A l.length c) l.length (wvs l)
section
variable {w w' : World} {B B' base : Nat} {A : Option Addr} {c : Nat} {l : List UInt64}
theorem RdW.below (h : RdW w B A l) (hb : Below B w w') : RdW w' B A l := by
  rcases h with h | ⟨b, off, e, hbB, hc⟩
  · exact .inl h
  · exact .inr ⟨b, off, e, hbB, fun j hj => (hb.cell (p := ⟨b, off + j, none⟩) hbB).trans (hc j hj)⟩
theorem RdW.more (h : RdW w B A l) (hB : B ≤ B') : RdW w B' A l := by
  rcases h with h | ⟨b, off, e, hb, hc⟩
  · exact .inl h
  · exact .inr ⟨b, off, e, by omega, hc⟩
theorem RdW.grow (h : RdW w w.heap.size A l) (hb : Below w.heap.size w w') : RdW w' w'.heap.size A l := (h.below hb).more hb.size
theorem RdW.at_ (h : RdW w B A l) {k : Nat} (hk : k < l.length) : ∃ b off, A = some ⟨b, off, none⟩ ∧ b < B ∧ w.cell? ⟨b, off + k, none⟩ = some (.int .u64 (l[k].toNat : Int)) := by
  rcases h with rfl | ⟨b, off, e, hb, hc⟩
  · simp at hk
  · exact ⟨b, off, e, hb, hc k hk⟩
theorem OwnW.nil (w : World) (base : Nat) : OwnW w base none 0 [] := World.ownsRow_nil w base 44 1
theorem OwnW.rd (h : OwnW w base A c l) : RdW w w.heap.size A l := by
  rcases h.2 with ⟨h1, h2⟩ | ⟨g, cap, cur, h1, h2, h3, h4, h5, h6, h7⟩
  · exact .inl (List.eq_nil_of_length_eq_zero h2)
  · simp only [Value.slice.injEq] at h1
    obtain ⟨rfl, _, rfl⟩ := h1
    refine .inr ⟨g, 0, rfl, lt_of_heap h3, fun j hj => ?_⟩
    rw [Nat.zero_add, cell_of_row w g j cur 44 (0, 0) h3]
    have h8 : (cur.toList.take (l.length * 1))[j]? = (wvs l)[j]? := by rw [h7]
    rw [List.getElem?_take, if_pos (by omega)] at h8
    simpa [wvs, hj] using h8
theorem OwnW.grow (h : OwnW w base A c l) (hb : Below w.heap.size w w') : OwnW w' base A c l := by
  refine ⟨h.1, ?_⟩
  rcases h.2 with h1 | ⟨g, cap, cur, h1, h2, h3, r⟩
  · exact .inl h1
  · exact .inr ⟨g, cap, cur, h1, h2, by rw [hb.block g (lt_of_heap h3)]; exact h3, r⟩
theorem OwnW.cells (h : OwnW w base A c l) (hl : 0 < l.length) : ∃ g, A = some ⟨g, 0, none⟩ ∧ base ≤ g ∧ ∀ j, j < l.length → w.cell? ⟨g, j, none⟩ = some (.int .u64 ((l.getD j 0).toNat : Int)) := by
  rcases h.2 with ⟨h1, h2⟩ | ⟨g, cap, cur, h1, h2, h3, h4, h5, h6, h7⟩
  · omega
  · simp only [Value.slice.injEq] at h1
    obtain ⟨rfl, _, rfl⟩ := h1
    refine ⟨g, rfl, h2, fun j hj => ?_⟩
    rw [cell_of_row w g j cur 44 (0, 0) h3]
    have h8 : (cur.toList.take (l.length * 1))[j]? = (wvs l)[j]? := by rw [h7]
    rw [List.getElem?_take, if_pos (by omega)] at h8
    simpa [wvs, hj, wv] using h8
theorem OwnW.less {base' : Nat} (h : OwnW w base A c l) (hb : base' ≤ base) : OwnW w base' A c l := by
  refine ⟨h.1, ?_⟩
  rcases h.2 with h1 | ⟨g, cap, cur, h1, h2, r⟩
  · exact .inl h1
  · exact .inr ⟨g, cap, cur, h1, by omega, r⟩
theorem OwnW.le (h : OwnW w base A c l) : l.length ≤ c := by
  rcases h.2 with ⟨h1, h2⟩ | ⟨g, cap, cur, h1, _, _, h4, _⟩
  · omega
  · simp only [Value.slice.injEq] at h1
    obtain ⟨_, _, rfl⟩ := h1
    exact h4
theorem OwnW.lit (w : World) (l : List UInt64) (hb : base ≤ w.heap.size) (hl : l.length ≤ 4294967296) :
    OwnW (w.alloc (.cells (wvs l).toArray 44)) base (some ⟨w.heap.size, 0, none⟩) l.length l := by
  have := World.ownsRow_lit (e := 44) (size := 1) w (wvs l).toArray l.length hb (by unfold maxLen; omega) (by simp [wvs])
  simpa [OwnW] using this
end
theorem run_appW {w : World} {base : Nat} {A : Option Addr} {c : Nat} {l : List UInt64} (h : OwnW w base A c l) (ad : Addr) (c2 : Nat) {x : UInt64} (hc : w.cell? ad = some (wv x))
    (hl : l.length ≤ 4294967296) (hbase : base ≤ w.heap.size) (ty : TypeId) :
    ∃ A' c' w', (Builtin.append_ #[45, 45] ty #[.slice A l.length c, .slice (some ad) 1 c2]).run Tryd.prog w = .ok (.slice A' (l ++ [x]).length c') w' ∧ OwnW w' base A' c' (l ++ [x]) ∧ Below base w w' := by
  obtain ⟨i0, hi, hz0, hz1, hz2⟩ := info_parts infoW
  obtain ⟨v', w', hrun, hown', hg, _⟩ := run_append_own (P := Tryd.prog) w base 45 ty 44 i0 _ 1 8 Tryd.underlying45 hi hz0 hz1 hz2 rfl (by omega) _ _ _ h ad 1 c2 [wv x] rfl
    (fun j u hu => by
      match j, hu with
      | 0, hu => simp at hu; subst hu; simpa [Addr.add] using hc)
    (fun u hu => by simp at hu; subst hu; rfl) (by unfold maxLen; omega) (by omega) hbase
  have hv' : ∃ A' c', v' = .slice A' (l ++ [x]).length c' := by
    rcases hown'.2 with ⟨_, h4⟩ | ⟨g, cap, cur, h4, _⟩
    · omega
    · exact ⟨some ⟨g, 0, none⟩, cap, by rw [h4]; simp⟩
  obtain ⟨A', c', rfl⟩ := hv'
  refine ⟨A', c', w', hrun, ?_, ?_⟩
  · unfold OwnW
    simpa [wvs] using hown'
  · exact (Below.refl _ _).grown hg hbase fun k hk => (World.ownsRow.lt h k hk).1
section
variable {w : World} {ops : Array Oper} {rest : List Oper} {o : Oper} {a : Act}
theorem wp_appW {K : Act → World → Prop} {Q : Exit → Act → World → Prop} (s x : Operand) (ho : o.op = .call { callee := .builtin .append, args := #[s, x], argTypes := #[45, 45] })
    {base : Nat} {A : Option Addr} {c m : Nat} {l : List UInt64} (hs : a.eval s = .slice A m c) (hm : l.length = m) (h : OwnW w base A c l) {ad : Addr} {c2 : Nat} (hx : a.eval x = .slice (some ad) 1 c2) {y : UInt64} (hc : w.cell? ad = some (.int .u64 (y.toNat : Int)))
    (hl : m ≤ 4294967296) (hbase : base ≤ w.heap.size)
    (hk : ∀ A' c' w', OwnW w' base A' c' (l ++ [y]) → Below base w w' → K (a.put o.dst (.slice A' (m + 1) c')) w') : o.wp Tryd.prog a w K Q := by
  subst hm
  obtain ⟨A', c', w', hrun, h3, h4⟩ := run_appW h ad c2 hc hl hbase o.type
  unfold Oper.wp execOp
  simp only [ho, resolve, invoke, builtin, Sem.run_bind, Sem.run_pure, Result.andThen_ok, List.map_toArray, List.map_cons, List.map_nil, hs, hx, hrun]
  have := hk A' c' w' h3 h4
  rwa [show l.length + 1 = (l ++ [y]).length by simp] at this
theorem wpList_appW {Q : Exit → Act → World → Prop} (hgd : o.guard = none) (s x : Operand) (ho : o.op = .call { callee := .builtin .append, args := #[s, x], argTypes := #[45, 45] })
    {base : Nat} {A : Option Addr} {c m : Nat} {l : List UInt64} (hs : a.eval s = .slice A m c) (hm : l.length = m) (h : OwnW w base A c l) {ad : Addr} {c2 : Nat} (hx : a.eval x = .slice (some ad) 1 c2) {y : UInt64} (hc : w.cell? ad = some (.int .u64 (y.toNat : Int)))
    (hl : m ≤ 4294967296) (hbase : base ≤ w.heap.size)
    (hk : ∀ A' c' w', OwnW w' base A' c' (l ++ [y]) → Below base w w' → wpList Tryd.prog ops Q rest (a.put o.dst (.slice A' (m + 1) c')) w') : wpList Tryd.prog ops Q (o :: rest) a w :=
  wpList_plain hgd fun _ hK => wp_appW s x ho hs hm h hx hc hl hbase fun A' c' w' h3 h4 => hK _ _ (hk A' c' w' h3 h4)
end
/-- .. and the words that stand there already stay, also in the old row. -/
theorem run_appWc {w : World} {base g : Nat} {c : Nat} {l : List UInt64} (h : OwnW w base (some ⟨g, 0, none⟩) c l) (ad : Addr) (c2 : Nat) {x : UInt64} (hc : w.cell? ad = some (wv x))
    (hl : l.length ≤ 4294967296) (hbase : base ≤ w.heap.size) (ty : TypeId) :
    ∃ A' c' w', (Builtin.append_ #[45, 45] ty #[.slice (some ⟨g, 0, none⟩) l.length c, .slice (some ad) 1 c2]).run Tryd.prog w = .ok (.slice A' (l ++ [x]).length c') w' ∧ OwnW w' base A' c' (l ++ [x]) ∧ Below base w w' ∧
      ∀ j, j < l.length → w'.cell? ⟨g, j, none⟩ = w.cell? ⟨g, j, none⟩ := by
  obtain ⟨i0, hi, hz0, hz1, hz2⟩ := info_parts infoW
  have hnews : ∀ j u, [wv x][j]? = some u → w.cell? (ad.add j) = some u := fun j u hu => by
    match j, hu with
    | 0, hu => simp at hu; subst hu; simpa [Addr.add] using hc
  have hcell : ∀ j, j < l.length → w.cell? ⟨g, j, none⟩ = some (wv (l.getD j 0)) := fun j hj => by
    obtain ⟨g', e, _, hh⟩ := h.cells (by omega)
    simp only [Option.some.injEq, Addr.mk.injEq] at e
    obtain ⟨rfl, _, _⟩ := e
    exact hh j hj
  by_cases hroom : l.length + 1 ≤ c
  · obtain ⟨w', hrun, hown', hg⟩ := run_append_fits (P := Tryd.prog) w base 45 ty 44 i0 1 Tryd.underlying45 hi hz1 g l.length c (wvs l) h ad 1 c2 [wv x] rfl hnews (fun u hu => by simp at hu; subst hu; rfl) hroom
    have ho : OwnW w' base (some ⟨g, 0, none⟩) c (l ++ [x]) := by unfold OwnW; simpa [wvs] using hown'
    refine ⟨_, _, w', by simpa using hrun, ho, (Below.refl _ _).grown hg hbase fun k hk => (World.ownsRow.lt h k hk).1, fun j hj => ?_⟩
    obtain ⟨g', e, _, hh⟩ := ho.cells (by simp)
    simp only [Option.some.injEq, Addr.mk.injEq] at e
    obtain ⟨rfl, _, _⟩ := e
    rw [hh j (by simp; omega), hcell j hj]
    simp [wv, hj, List.getElem?_append_left hj]
  · obtain ⟨v', w', hrun, hown', hg⟩ := run_append_arg_grows (P := Tryd.prog) w 45 ty 44 i0 _ 1 8 Tryd.underlying45 hi hz0 hz1 hz2 rfl (by omega) ⟨g, 0, none⟩ l.length c (wvs l) (by simp [wvs])
      (fun j u hu => by
        have hj : j < l.length := by
          have := (List.getElem?_eq_some_iff.1 hu).1
          simpa [wvs] using this
        have h3 := hcell j hj
        simp [wvs, hj] at hu
        subst hu
        by_cases h0 : j = 0
        · subst h0; simpa [Addr.add, hj] using h3
        · simpa [Addr.add, h0, hj] using h3) ad 1 c2 [wv x] rfl hnews (by omega) (by unfold maxLen; omega) (by omega)
    have hv' : ∃ A' c', v' = .slice A' (l ++ [x]).length c' := by
      rcases hown'.2 with ⟨_, h4⟩ | ⟨g, cap, cur, h4, _⟩
      · omega
      · exact ⟨some ⟨g, 0, none⟩, cap, by rw [h4]; simp⟩
    obtain ⟨A', c', rfl⟩ := hv'
    have ho : OwnW w' w.heap.size A' c' (l ++ [x]) := by unfold OwnW; simpa [wvs] using hown'
    refine ⟨A', c', w', hrun, ho.less hbase, ⟨hg.os, hg.tape, hg.output, hg.size, fun k hk => hg.block k (by omega) (by simp)⟩, fun j hj => ?_⟩
    have hb := World.block_lt_of_cell? w _ (hcell j hj)
    exact World.cell?_of_block (hg.block g hb (by simp))
theorem wp_appWc {w : World} {o : Oper} {a : Act} {K : Act → World → Prop} {Q : Exit → Act → World → Prop} (s x : Operand) (ho : o.op = .call { callee := .builtin .append, args := #[s, x], argTypes := #[45, 45] })
    {base g : Nat} {c m : Nat} {l : List UInt64} (hs : a.eval s = .slice (some ⟨g, 0, none⟩) m c) (hm : l.length = m) (h : OwnW w base (some ⟨g, 0, none⟩) c l) {ad : Addr} {c2 : Nat} (hx : a.eval x = .slice (some ad) 1 c2) {y : UInt64} (hc : w.cell? ad = some (.int .u64 (y.toNat : Int)))
    (hl : m ≤ 4294967296) (hbase : base ≤ w.heap.size)
    (hk : ∀ A' c' w', OwnW w' base A' c' (l ++ [y]) → Below base w w' → (∀ j, j < m → w'.cell? ⟨g, j, none⟩ = w.cell? ⟨g, j, none⟩) → K (a.put o.dst (.slice A' (m + 1) c')) w') : o.wp Tryd.prog a w K Q := by
  subst hm
  obtain ⟨A', c', w', hrun, h3, h4, h5⟩ := run_appWc h ad c2 hc hl hbase o.type
  unfold Oper.wp execOp
  simp only [ho, resolve, invoke, builtin, Sem.run_bind, Sem.run_pure, Result.andThen_ok, List.map_toArray, List.map_cons, List.map_nil, hs, hx, hrun]
  have := hk A' c' w' h3 h4 h5
  rwa [show l.length + 1 = (l ++ [y]).length by simp] at this
/-- What a call that makes words leaves. -/
def MakesW (w : World) (l : List UInt64) (e : Ending) (w' : World) : Prop := ∃ A c, e = .returned (.slice A l.length c) ∧ OwnW w' w.heap.size A c l ∧ Below w.heap.size w w'
end Go.Proofs.YtbofikghcoalbaaDoor.S4
