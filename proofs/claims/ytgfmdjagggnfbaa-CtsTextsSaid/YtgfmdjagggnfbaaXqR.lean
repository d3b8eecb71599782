/-
  Appends within the room there is; pieces beside a block that changes; an array of 16 bytes cut whole; two lists of 16 bytes XORed.
-/
import Derived.Test.YtgfmdjagggnfbaaXtB
import Derived.Test.YtgfmdjagggnfbaaCut
import Derived.Test.YtgfmdjagggnfbaaRdl
import Derived.Test.YtgfmdjagggnfbaaOxr
import Derived.Test.YtgfmdjagggnfbaaAps
import Derived.Laws.Cover3
namespace Go.Proofs.Ytgfmdjagggnfbaa.S8
open Go.RowKit
open Go.Proofs.Ytgfmdjagggnfbaa.S7 hiding intOf
set_option linter.unusedVariables false
set_option linter.unusedSimpArgs false

/-- An owned slice of bytes beside a block that changes. -/
theorem Own.but {w w' : World} {base g : Nat} {A : Option Addr} {c : Nat} {l : List UInt8} (h : Own w base A c l) (hg : w.grownBy w' (some g)) (hlt : g < base) : Own w' base A c l := by
  refine ⟨h.1, ?_⟩
  rcases h.2 with h1 | ⟨g1, cap, cur, h1, h2, h3, r⟩
  · exact .inl h1
  · refine .inr ⟨g1, cap, cur, h1, h2, ?_, r⟩
    rw [hg.block g1 (lt_of_heap h3) (by simp; omega)]
    exact h3
theorem OwnL.but {w w' : World} {base g : Nat} {A : Option Addr} {c : Nat} {ls : List (List UInt8)} (h : OwnL w base A c ls) (hg : w.grownBy w' (some g)) (hlt : g < base) : OwnL w' base A c ls := by
  obtain ⟨vs, h1, h2, h3⟩ := h
  refine ⟨vs, h1, ⟨h2.1, ?_⟩, fun j hj hj' => ?_⟩
  · rcases h2.2 with h4 | ⟨g1, cap, cur, h4, h5, h6, r⟩
    · exact .inl h4
    · refine .inr ⟨g1, cap, cur, h4, h5, ?_, r⟩
      rw [hg.block g1 (lt_of_heap h6) (by simp; omega)]
      exact h6
  · obtain ⟨A', c', e, ho⟩ := h3 j hj hj'
    exact ⟨A', c', e, Own.but ho hg hlt⟩
theorem OwnL.rdL {w : World} {base : Nat} {A : Option Addr} {c : Nat} {ls : List (List UInt8)} (h : OwnL w base A c ls) : RdL w w.heap.size A ls := by
  obtain ⟨vs, h1, h2, h3⟩ := h
  rcases h2.2 with ⟨h4, h5⟩ | ⟨g, cap, cur, h4, h5, h6, h7, h8, h9, h10⟩
  · exact .inl (List.eq_nil_of_length_eq_zero h5)
  · simp only [Value.slice.injEq] at h4
    obtain ⟨rfl, _, rfl⟩ := h4
    refine .inr ⟨g, 0, rfl, lt_of_heap h6, fun j hj => ?_⟩
    obtain ⟨A', c', e, ho⟩ := h3 j hj (by omega)
    refine ⟨A', c', ?_, ho.le, ho.rd⟩
    rw [Nat.zero_add, h2.cellAt j (by omega), List.getElem?_eq_getElem (by omega), e]
theorem mk0 (k : Nat) (hk : k ≤ 1000000) (w : World) :
    (Instr.makeSlice 23 (.int .i64 0) (.int .i64 (k : Int))).run Try.prog w = .ok (.slice (some ⟨w.heap.size, 0, none⟩) 0 k) (w.alloc (.cells (bvs (List.replicate k 0)).toArray 5)) := by
  obtain ⟨i0, hi, hz0, hz1, hz2⟩ := info_parts info5
  have hr := run_make (P := Try.prog) w 23 5 i0 _ Try.underlying23 hi hz0 .i64 .i64 0 (k : Int) (by omega) (by omega) (by rw [hz2]; omega) (by omega)
  simp only [Int.toNat_natCast, hz1, Nat.mul_one] at hr
  rw [hr]
  have : madeCells (Value.int IntKind.u8 0).cells k = (bvs (List.replicate k 0)).toArray := by
    apply Array.toList_inj.1
    show (madeCells #[_] k).toList = _
    rw [toList_madeCells_one]
    simp [bvs, bv]
  rw [this]
  rfl
theorem own_mk0 (w : World) (k : Nat) (hk : k ≤ 1000000) (base : Nat) (hb : base ≤ w.heap.size) : Own (w.alloc (.cells (bvs (List.replicate k 0)).toArray 5)) base (some ⟨w.heap.size, 0, none⟩) k [] :=
  ⟨by simp [bvs], .inr ⟨w.heap.size, k, _, rfl, hb, heap_alloc_new w _, Nat.zero_le _, by unfold maxLen; omega, by simp [bvs], by simp [bvs]⟩⟩
/-- append where there is room: the slice stays where it is, and all other blocks as they are. -/
theorem run_appR {w : World} {g : Nat} {c : Nat} {l : List UInt8} (h : Own w g (some ⟨g, 0, none⟩) c l) {B : Nat} {A2 : Addr} (c2 : Nat) {l2 : List UInt8} (h2 : Rd w B (some A2) l2)
    (hroom : l.length + l2.length ≤ c) (hl : l.length + l2.length ≤ 4294967296) (ty : TypeId) :
    ∃ w', (Builtin.append_ #[23, 23] ty #[.slice (some ⟨g, 0, none⟩) l.length c, .slice (some A2) l2.length c2]).run Try.prog w = .ok (.slice (some ⟨g, 0, none⟩) (l ++ l2).length c) w' ∧ Own w' g (some ⟨g, 0, none⟩) c (l ++ l2) ∧ w.grownBy w' (some g) := by
  obtain ⟨i0, hi, hz0, hz1, hz2⟩ := info_parts info5
  have hb : g ≤ w.heap.size := by
    rcases h.form with ⟨e, _⟩ | ⟨g', cur, e, _, hh, _⟩
    · cases e
    · simp only [Option.some.injEq, Addr.mk.injEq] at e
      have := lt_of_heap hh
      omega
  obtain ⟨A', c', w', hrun, hown, hg, _⟩ := run_appS h c2 h2 hl hb ty
  have hcells : ∀ j u, (bvs l2)[j]? = some u → w.cell? (A2.add j) = some u := by
    intro j u hu
    rcases h2 with rfl | ⟨b, off, e, hb, hc⟩
    · simp [bvs] at hu
    · simp only [Option.some.injEq] at e
      subst e
      have hj : j < l2.length := by
        have := (List.getElem?_eq_some_iff.1 hu).1
        simpa [bvs] using this
      have h3 := hc j hj
      simp [bvs, hj] at hu
      subst hu
      by_cases h0 : j = 0
      · subst h0; simpa [Addr.add] using h3
      · simpa [Addr.add, h0] using h3
  rcases h.2 with ⟨h1, h3⟩ | ⟨g1, cap, cur, h1, hbg, hheap, hnc, hcm, hcs, htake⟩
  · simp only [Value.slice.injEq] at h1
    cases h1.1
  · simp only [Value.slice.injEq, Option.some.injEq, Addr.mk.injEq] at h1
    obtain ⟨⟨rfl, _⟩, _, rfl⟩ := h1
    have hr := run_append_room (P := Try.prog) w 23 ty 5 i0 Try.underlying23 hi g l.length c cur hheap A2 l2.length c2 (bvs l2) (by rw [hz1]; simp [bvs]) hcells (bvs_one l2) hroom (by rw [hz1, hcs]; simp [bvs]; omega)
    have e := hrun.symm.trans hr
    injection e with e _
    simp only [Value.slice.injEq] at e
    obtain ⟨rfl, _, rfl⟩ := e
    refine ⟨w', hrun, hown, ?_⟩
    simpa [Value.ownBlock] using hg
section
variable {w : World} {o : Oper} {a : Act} {K : Act → World → Prop} {Q : Exit → Act → World → Prop}
theorem wp_appR (s x : Operand) (ho : o.op = .call { callee := .builtin .append, args := #[s, x], argTypes := #[23, 23] })
    {g n c n2 m : Nat} {l : List UInt8} (hn : l.length = n) (hs : a.eval s = .slice (some ⟨g, 0, none⟩) n c) (h : Own w g (some ⟨g, 0, none⟩) c l) {B : Nat} {A2 : Addr} {c2 : Nat} {l2 : List UInt8} (hn2 : l2.length = n2) (hx : a.eval x = .slice (some A2) n2 c2) (h2 : Rd w B (some A2) l2)
    (hm : m = n + n2) (hroom : m ≤ c) (hl : m ≤ 4294967296)
    (hk : ∀ w', Own w' g (some ⟨g, 0, none⟩) c (l ++ l2) → w.grownBy w' (some g) → K (a.put o.dst (.slice (some ⟨g, 0, none⟩) m c)) w') : o.wp Try.prog a w K Q := by
  subst hn hn2
  obtain ⟨w', hrun, h3, h4⟩ := run_appR h c2 h2 (by omega) (by omega) o.type
  unfold Oper.wp execOp
  simp only [ho, resolve, invoke, builtin, Sem.run_bind, Sem.run_pure, Result.andThen_ok, List.map_toArray, List.map_cons, List.map_nil, hs, hx, hrun]
  have := hk w' h3 h4
  rwa [hm, ← List.length_append] at this
end

theorem cut_all (W : World) (g : Nat) : (Instr.sliceAt 37 (.pointer (some ⟨g, 0, none⟩)) none none none).run Try.prog W = .ok (.slice (some ⟨g, 0, none⟩) 16 16) W := by
  obtain ⟨i0, hi0, hz0, hz1, hz2⟩ := info_parts info5
  have hel : Try.prog.elem 37 = 5 := by kernel_rfl
  have hl : Try.prog.arrayLen 37 = 16 := by kernel_rfl
  rw [run_sliceAt_array_all (P := Try.prog) W 37 ⟨g, 0, none⟩ (by rw [hel, hl]; exact u16B), hel, hl]
  simp [sizeOf, typeInfo, hi0, hz1, slicedAt, Result.andThen, Addr.add_mid]

theorem zip_mk (a b : List UInt8) (ha : a.length = 16) (hb : b.length = 16) : Go.Proofs.Ytgfmdjagggnfbaa.xorL a b = xorL a b := by
  apply List.ext_getElem
  · rw [Go.Proofs.Ytgfmdjagggnfbaa.xorL_len, xorL_len, ha, hb]; rfl
  · intro j h1 h2
    rw [xorL_len] at h2
    rw [Go.Proofs.Ytgfmdjagggnfbaa.xorL_get a b j h1 (by omega) (by omega)]
    have h3 := gt_mk (fun i => gt a i ^^^ gt b i) j h2
    simp only [gt, List.getD_eq_getElem?_getD] at h3
    rw [List.getElem?_eq_getElem (by rw [mk_len]; exact h2), List.getElem?_eq_getElem (by omega), List.getElem?_eq_getElem (by omega)] at h3
    exact h3.symm
theorem grown_row (w : World) (g : Nat) (cs : Array Value) : w.grownBy (w.setRow g cs) (some g) :=
  ⟨rfl, rfl, rfl, by simp [World.setRow], fun k hk hne => setRow_other w g k cs (by simpa using hne)⟩
/-- A block of 16 bytes may be read. -/
theorem rd_br {w : World} {g : Nat} {l : List UInt8} (h : Br w g l) {B : Nat} (hB : g < B) : Rd w B (some ⟨g, 0, none⟩) l :=
  .inr ⟨g, 0, rfl, hB, fun j hj => by rw [Nat.zero_add, h.cell j hj]; simp [bv, gt, hj]⟩
end Go.Proofs.Ytgfmdjagggnfbaa.S8
