/-
  Strings put together and cut; make of bytes with room; append onto bytes without room; a list of three pieces.
-/
import Derived.Test.YtbofikghcoalbaaDoorSbSu
import Derived.Test.YtbofikghcoalbaaDoorGrow
import Derived.Test.YtbofikghcoalbaaDoorRdl
namespace Go.Proofs.YtbofikghcoalbaaDoor.S6
open Go.RowKit
set_option linter.unusedVariables false
set_option linter.unusedSimpArgs false
theorem addS (p q : List UInt8) (h : p.length + q.length ≤ 4294967296) (W : World) : (Op.stringOp .add { data := p.toArray } { data := q.toArray }).run Tryd.prog W = .ok (.string { data := (p ++ q).toArray }) W := by
  rw [run_string_add_sum _ _ _ (by show p.toArray.size + q.toArray.size ≤ _; simp; omega)]
  congr 2
theorem cutS (l : List UInt8) (n : Nat) (h : n ≤ l.length) (W : World) : (Instr.slice 9 (.string ⟨l.toArray⟩) none (some (.int .i64 (n : Int))) none).run Tryd.prog W = .ok (.string ⟨(l.take n).toArray⟩) W := by
  have hs : (⟨l.toArray⟩ : ByteArray).size = l.length := by show l.toArray.size = _; simp
  have hr := run_slice_string_h (P := Tryd.prog) W 9 ⟨l.toArray⟩ Tryd.underlying9 .i64 (n : Int) (by omega) (by rw [hs]; omega)
  rw [hr]
  congr 2
  apply ByteArray.ext
  apply Array.ext'
  simp [ByteArray.extract, ByteArray.copySlice]
/-- 'make([]byte, 0, k)'. -/
theorem mk0 (k : Nat) (hk : k ≤ 1000000) (w : World) :
    (Instr.makeSlice 22 (.int .i64 0) (.int .i64 (k : Int))).run Tryd.prog w = .ok (.slice (some ⟨w.heap.size, 0, none⟩) 0 k) (w.alloc (.cells (bvs (List.replicate k 0)).toArray 5)) := by
  obtain ⟨i0, hi, hz0, hz1, hz2⟩ := info_parts info5
  have hr := run_make (P := Tryd.prog) w 22 5 i0 _ Tryd.underlying22 hi hz0 .i64 .i64 0 (k : Int) (by omega) (by omega) (by rw [hz2]; omega) (by omega)
  simp only [Int.toNat_natCast, hz1, Nat.mul_one] at hr
  rw [hr]
  have : madeCells (Value.int IntKind.u8 0).cells k = (bvs (List.replicate k 0)).toArray := by
    apply Array.toList_inj.1
    show (madeCells #[_] k).toList = _
    rw [toList_madeCells_one]
    simp [bvs, bv]
  rw [this]
  rfl
theorem own_mk0 (w : World) (k : Nat) (hk : k ≤ 1000000) (base : Nat) (hb : base ≤ w.heap.size) : Own (w.alloc (.cells (bvs (List.replicate k 0)).toArray 5)) base (some ⟨w.heap.size, 0, none⟩) k [] :=
  ⟨by simp [bvs], .inr ⟨w.heap.size, k, _, rfl, hb, heap_alloc_new w _, Nat.zero_le _, by unfold maxLen; omega, by simp [bvs], by simp [bvs]⟩⟩

/-- append onto a slice without room: new bytes. -/
theorem run_appG {w : World} {B0 : Nat} {A : Option Addr} {l : List UInt8} (h : Rd w B0 A l) {B : Nat} {A2 : Option Addr} (c2 : Nat) {l2 : List UInt8} (h2 : Rd w B A2 l2) (h0 : 0 < l.length) (h02 : 0 < l2.length)
    (hl : l.length + l2.length ≤ 4294967296) (ty : TypeId) :
    ∃ A' c' w', (Builtin.append_ #[22, 22] ty #[.slice A l.length l.length, .slice A2 l2.length c2]).run Tryd.prog w = .ok (.slice A' (l ++ l2).length c') w' ∧ Own w' w.heap.size A' c' (l ++ l2) ∧ Below w.heap.size w w' := by
  obtain ⟨i0, hi, hz0, hz1, hz2⟩ := info_parts info5
  have hcells : ∀ {B : Nat} {A : Option Addr} {l : List UInt8}, Rd w B A l → 0 < l.length → ∃ ad, A = some ad ∧ ∀ j u, (bvs l)[j]? = some u → w.cell? (ad.add j) = some u := by
    intro B A l h h0
    rcases h with rfl | ⟨b, off, rfl, hb, hc⟩
    · simp at h0
    · refine ⟨_, rfl, fun j u hu => ?_⟩
      have hj : j < l.length := by
        have := (List.getElem?_eq_some_iff.1 hu).1
        simpa [bvs] using this
      have h3 := hc j hj
      simp [bvs, hj] at hu
      subst hu
      by_cases h0 : j = 0
      · subst h0; simpa [Addr.add] using h3
      · simpa [Addr.add, h0] using h3
  obtain ⟨ad, rfl, hc1⟩ := hcells h h0
  obtain ⟨ad2, rfl, hc2⟩ := hcells h2 h02
  obtain ⟨v', w', hrun, hown', hg⟩ := run_append_arg_grows (P := Tryd.prog) w 22 ty 5 i0 _ 1 1 Tryd.underlying22 hi hz0 hz1 hz2 rfl (by omega) ad l.length l.length (bvs l) (by simp [bvs]) hc1 ad2 l2.length c2 (bvs l2) (by simp [bvs]) hc2
    (by omega) (by unfold maxLen; omega) (by omega)
  have hv : ∃ A' c', v' = .slice A' (l ++ l2).length c' := by
    rcases hown'.2 with ⟨h1, h3⟩ | ⟨g, cap, cur, h1, _⟩
    · omega
    · exact ⟨some ⟨g, 0, none⟩, cap, by rw [h1, List.length_append]⟩
  obtain ⟨A', c', rfl⟩ := hv
  refine ⟨A', c', w', hrun, ?_, ⟨hg.os, hg.tape, hg.output, hg.size, fun k hk => hg.block k hk (by simp)⟩⟩
  unfold Own
  have e1 : (l ++ l2).length = l.length + l2.length := by simp
  have e2 : bvs (l ++ l2) = bvs l ++ bvs l2 := by simp [bvs]
  rw [e2]
  rw [e1] at hown' ⊢
  exact hown'
theorem wpList_appG {w : World} {ops : Array Oper} {rest : List Oper} {o : Oper} {a : Act} {Q : Exit → Act → World → Prop} (hgd : o.guard = none) (s x : Operand) (ho : o.op = .call { callee := .builtin .append, args := #[s, x], argTypes := #[22, 22] })
    {B0 : Nat} {A : Option Addr} {n : Nat} {l : List UInt8} (hn : l.length = n) (hs : a.eval s = .slice A n n) (h : Rd w B0 A l) {B : Nat} {A2 : Option Addr} {n2 c2 : Nat} {l2 : List UInt8} (hn2 : l2.length = n2) (hx : a.eval x = .slice A2 n2 c2) (h2 : Rd w B A2 l2) (h0 : 0 < n) (h02 : 0 < n2)
    (hl : n + n2 ≤ 4294967296) (r : List UInt8) (hr : l ++ l2 = r)
    (hk : ∀ A' c' w', Own w' w.heap.size A' c' r → Grown w w' → wpList Tryd.prog ops Q rest (a.put o.dst (.slice A' r.length c')) w') : wpList Tryd.prog ops Q (o :: rest) a w := by
  subst hn hn2 hr
  obtain ⟨A', c', w', hrun, h3, h4⟩ := run_appG h c2 h2 h0 h02 hl o.type
  refine wpList_plain hgd fun _ hK => ?_
  unfold Oper.wp execOp
  simp only [ho, resolve, invoke, builtin, Sem.run_bind, Sem.run_pure, Result.andThen_ok, List.map_toArray, List.map_cons, List.map_nil, hs, hx, hrun]
  exact hK _ _ (hk A' c' w' h3 h4)
/-- 'b[d:e]'. -/
theorem cut_lh (W : World) (A : Option Addr) (m c d e : Nat) (h : d ≤ e) (h2 : e ≤ c) : (Instr.slice 22 (.slice A m c) (some (.int .i64 (d : Int))) (some (.int .i64 (e : Int))) none).run Tryd.prog W = .ok (.slice (if c = d then A else A.map (·.add d)) (e - d) (c - d)) W := by
  obtain ⟨i0, hi, hz0, hz1, hz2⟩ := info_parts info5
  have he : Tryd.prog.elem 22 = 5 := by kernel_rfl
  rw [run_slice_lh W 22 A m c (by rw [he]; exact Tryd.underlying22) .i64 .i64 (d : Int) (e : Int) (by omega) (by omega) (by omega), he]
  simp [sizeOf, typeInfo, hi, hz1, sliced, Result.andThen]
/-- Three pieces. -/
theorem rdL_three {w : World} {A B C : Option Addr} {p q r : List UInt8} {n c m d k e : Nat} (h : Rd w w.heap.size A p) (h2 : Rd w w.heap.size B q) (h3 : Rd w w.heap.size C r) (hn : p.length = n) (hc : n ≤ c) (hm : q.length = m) (hd : m ≤ d) (hk : r.length = k) (he : k ≤ e) :
    RdL (w.alloc (.cells #[.slice A n c, .slice B m d, .slice C k e] 22)) (w.alloc (.cells #[.slice A n c, .slice B m d, .slice C k e] 22)).heap.size (some ⟨w.heap.size, 0, none⟩) [p, q, r] := by
  refine .inr ⟨w.heap.size, 0, rfl, by simp, fun j hj => ?_⟩
  rw [cell_of_row _ _ _ _ 22 (0, 0) (heap_alloc_new w _)]
  match j, hj with
  | 0, _ => exact ⟨A, c, by simp [hn], by simpa [hn] using hc, h.grow (alloc_below w _)⟩
  | 1, _ => exact ⟨B, d, by simp [hm], by simpa [hm] using hd, h2.grow (alloc_below w _)⟩
  | 2, _ => exact ⟨C, e, by simp [hk], by simpa [hk] using he, h3.grow (alloc_below w _)⟩
end Go.Proofs.YtbofikghcoalbaaDoor.S6
