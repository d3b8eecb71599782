/-
  The reference's lists of numbers (space): has, without, Put. The reference's twice, Ints; its space in memory: free, Free.
-/
import Derived.Test.YthakdjaaknbmpaaMgKactsMain21
import Derived.Test.YthakdjaaknbmpaaMgKactsMain14
namespace Go.Proofs.Ythakdjaaknbmpaa.S15
open Cf
open Go.RowKit
set_option linter.unusedVariables false
set_option linter.unusedSimpArgs false
section
variable {w : World} {A : Option Addr} {n c : Nat} {l : List Int}
theorem take_has (l : List Int) (m : Int) (i : Nat) (hi : i < l.length) : (l.take (i + 1)).contains m = ((l.take i).contains m || (l[i] == m)) := by
  rw [List.take_succ_eq_append_getElem hi]
  simp only [List.contains_append, List.contains_cons, List.contains_nil, Bool.or_false]
  rw [Bool.beq_comm]
/-- append of one number. -/
theorem wpList_appZ {w : World} {base : Nat} {A : Option Addr} {c n c2 g2 : Nat} {l : List Int} {x : Int} {ops : Array Oper} {rest : List Oper} {o : Oper} {a : Act} {Q : Exit → Act → World → Prop} (hgd : o.guard = none) (s y : Operand) (ho : o.op = .call { callee := .builtin .append, args := #[s, y], argTypes := #[34, 34] })
    (hn : l.length = n) (hs : a.eval s = .slice A n c) (h : OwZ w base A c l) (hx : a.eval y = .slice (some ⟨g2, 0, none⟩) 1 c2) (h2 : w.heap[g2]? = some (.cells #[.int .i64 x] 3 (0, 0))) (hl : n ≤ 100000) (hbase : base ≤ w.heap.size)
    (hk : ∀ A' c' w', OwZ w' base A' c' (l ++ [x]) → Below base w w' → wpList Try.prog ops Q rest (a.put o.dst (.slice A' (n + 1) c')) w') : wpList Try.prog ops Q (o :: rest) a w := by
  obtain ⟨i0, hi, hz, hz1, hz2⟩ := info_parts infoZ
  refine wpList_appOw (e := 3) Try.underlying34 hi hz hz1 hz2 rfl (by omega) hgd s y ho (n := n) (vs := l.map zv) (u := zv x) (by rw [List.length_map]; exact hn) hs h hx (cell_of_row w g2 0 _ _ (0, 0) h2) rfl hl hbase ?_
  intro A' c' w' ho' hg hm
  refine hk A' c' w' ?_ ?_
  · unfold OwZ
    rw [List.map_append]
    exact ho'
  · exact (Below.refl _ _).grown hg hbase fun k hk => by
      obtain ⟨x, hx, rfl⟩ := own_blk hk.symm
      exact (Ow.lt h x hx).1
/-- append of a row of numbers. -/
theorem run_appZ {w : World} {base : Nat} {A : Option Addr} {c : Nat} {l : List Int} (h : OwZ w base A c l) {B : Nat} {A2 : Option Addr} (c2 : Nat) {l2 : List Int} (h2 : RdZ w B A2 l2) (hl : l.length + l2.length ≤ 100000) (hbase : base ≤ w.heap.size) (ty : TypeId) :
    ∃ A' c' w', (Builtin.append_ #[34, 34] ty #[.slice A l.length c, .slice A2 l2.length c2]).run Try.prog w = .ok (.slice A' (l ++ l2).length c') w' ∧ OwZ w' base A' c' (l ++ l2) ∧ Below base w w' := by
  obtain ⟨i0, hi, hz0, hz1, hz2⟩ := info_parts infoZ
  have h' : w.ownsRow base 3 1 (.slice A l.length c) l.length (l.map zv) := by have := h; unfold OwZ Ow at this; rwa [List.length_map] at this
  by_cases hn : A2 = none
  · subst hn
    have hl2 : l2 = [] := by
      rcases h2 with h2 | ⟨b, off, e, _⟩
      · exact h2
      · cases e
    subst hl2
    refine ⟨A, c, w, ?_, by simpa using h, Below.refl _ _⟩
    rcases h'.2 with ⟨h1, h3⟩ | ⟨g, cap, cur, h1, _, _, hnc, _⟩
    · simp only [Value.slice.injEq] at h1
      obtain ⟨rfl, _, rfl⟩ := h1
      have : l = [] := List.eq_nil_of_length_eq_zero h3
      subst this
      simp [Builtin.append_, run_underlying Try.underlying34, sizeOf, typeInfo, hi, Builtin.lenOf, Builtin.firstCells]
    · simp only [Value.slice.injEq] at h1
      obtain ⟨rfl, _, rfl⟩ := h1
      simp [Builtin.append_, run_underlying Try.underlying34, sizeOf, typeInfo, hi, Builtin.lenOf, Builtin.firstCells, hnc, storeCells]
  · obtain ⟨ad, rfl⟩ : ∃ ad, A2 = some ad := by cases A2 with | none => exact absurd rfl hn | some ad => exact ⟨ad, rfl⟩
    have hcells : ∀ j u, (l2.map zv)[j]? = some u → w.cell? (ad.add j) = some u := by
      intro j u hu
      rcases h2 with rfl | ⟨b, off, e, hb, hc⟩
      · simp at hu
      · simp only [Option.some.injEq] at e
        subst e
        have hj : j < l2.length := by
          have := (List.getElem?_eq_some_iff.1 hu).1
          simpa using this
        have h3 := hc j hj
        simp [hj, zv] at hu
        subst hu
        by_cases h0 : j = 0
        · subst h0; simpa [Addr.add] using h3
        · simpa [Addr.add, h0] using h3
    obtain ⟨v', w', hrun, hown', hg, _⟩ := run_append_own (P := Try.prog) w base 34 ty 3 i0 _ 1 8 Try.underlying34 hi hz0 hz1 hz2 rfl (by omega) _ _ _ h' ad l2.length c2 (l2.map zv) (by simp) hcells (fun u hu => by simp only [List.mem_map] at hu; obtain ⟨x, _, rfl⟩ := hu; rfl)
      (by unfold maxLen; omega) (by omega) hbase
    have hv : ∃ A' c', v' = .slice A' (l ++ l2).length c' := by
      rcases hown'.2 with ⟨h1, h3⟩ | ⟨g, cap, cur, h1, _⟩
      · exact ⟨none, 0, by rw [h1]; simp at h3; simp [h3]⟩
      · exact ⟨some ⟨g, 0, none⟩, cap, by rw [h1]; simp⟩
    obtain ⟨A', c', rfl⟩ := hv
    refine ⟨A', c', w', hrun, ?_, ?_⟩
    · unfold OwZ Ow
      have e1 : (l ++ l2).length = l.length + l2.length := by simp
      rw [List.length_map, List.map_append]
      rw [e1] at hown' ⊢
      exact hown'
    · refine (Below.refl _ _).grown hg hbase fun k hk => ?_
      obtain ⟨x, hx, rfl⟩ := own_blk hk.symm
      exact (Ow.lt h x hx).1
theorem wpList_appZs {w : World} {base : Nat} {A A2 : Option Addr} {c n c2 n2 B : Nat} {l l2 : List Int} {ops : Array Oper} {rest : List Oper} {o : Oper} {a : Act} {Q : Exit → Act → World → Prop} (hgd : o.guard = none) (s y : Operand) (ho : o.op = .call { callee := .builtin .append, args := #[s, y], argTypes := #[34, 34] })
    (hn : l.length = n) (hs : a.eval s = .slice A n c) (h : OwZ w base A c l) (hn2 : l2.length = n2) (hx : a.eval y = .slice A2 n2 c2) (h2 : RdZ w B A2 l2) (hl : n + n2 ≤ 100000) (hbase : base ≤ w.heap.size)
    (hk : ∀ A' c' w', OwZ w' base A' c' (l ++ l2) → Below base w w' → wpList Try.prog ops Q rest (a.put o.dst (.slice A' (l ++ l2).length c')) w') : wpList Try.prog ops Q (o :: rest) a w := by
  subst hn hn2
  refine wpList_plain hgd fun K hK => ?_
  obtain ⟨A', c', w', hrun, h3, h4⟩ := run_appZ h c2 h2 hl hbase o.type
  unfold Oper.wp execOp
  simp only [ho, resolve, invoke, builtin, Sem.run_bind, Sem.run_pure, Result.andThen_ok, List.map_toArray, List.map_cons, List.map_nil, hs, hx, hrun]
  exact hK _ _ (hk A' c' w' h3 h4)
theorem RdZ.cut {w : World} {B : Nat} {A : Option Addr} {l : List Int} (h : RdZ w B A l) {k cap : Nat} (hc : l.length ≤ cap) : RdZ w B (if cap = k then A else A.map (·.add k)) (l.drop k) := by
  by_cases hk : l.length ≤ k
  · exact .inl (by simpa using hk)
  · rw [if_neg (by omega)]
    rcases h with rfl | ⟨b, off, rfl, hb, hc⟩
    · exact .inl (by simp)
    · refine .inr ⟨b, off + k, ?_, hb, fun j hj => ?_⟩
      · by_cases h0 : k = 0 <;> simp [Addr.add, h0]
      · simp at hj
        have := hc (k + j) (by omega)
        rw [show off + k + j = off + (k + j) by omega, this]
        simp
theorem cutZ (W : World) (A : Option Addr) (m c k : Nat) (h : k ≤ m) : (Instr.slice 34 (.slice A m c) (some (.int .i64 (k : Int))) none none).run Try.prog W = .ok (.slice (if c = k then A else A.map (·.add k)) (m - k) (c - k)) W := by
  obtain ⟨i0, hi, hz0, hz1, hz2⟩ := info_parts infoZ
  have he : Try.prog.elem 34 = 3 := by kernel_rfl
  rw [run_slice_l W 34 A m c (by rw [he]; exact Try.underlying34) .i64 (k : Int) (by omega) (by omega), he]
  simp [sizeOf, typeInfo, hi, hz1, sliced, Result.andThen]
theorem lo_take (l : List Int) (m : Int) (i : Nat) (hi : i ≤ l.length) (hlt : ∀ j (h : j < i), l[j]'(by omega) < m) (hge : ∀ h : i < l.length, ¬ l[i] < m) : lo l m = l.take i := by
  unfold lo
  induction l generalizing i with
  | nil => simp
  | cons x l ih =>
    cases i with
    | zero =>
      have := hge (by simp)
      simp only [List.getElem_cons_zero] at this
      simp [List.takeWhile_cons, this]
    | succ i =>
      have h0 := hlt 0 (by omega)
      simp only [List.getElem_cons_zero] at h0
      rw [List.takeWhile_cons, if_pos (by simpa using h0), List.take_succ_cons]
      rw [ih i (by simpa using hi) (fun j hj => by simpa using hlt (j + 1) (by omega)) (fun h hx => hge (Nat.succ_lt_succ h) hx)]
end
end Go.Proofs.Ythakdjaaknbmpaa.S15
namespace Go.Proofs.Ythakdjaaknbmpaa.S15
open Cf
open Go.RowKit
set_option linter.unusedVariables false
set_option linter.unusedSimpArgs false
section
variable {w : World} {A A2 : Option Addr} {n c n2 c2 : Nat} {l l2 : List Int}
theorem cutZh (W : World) (A : Option Addr) (m c d : Nat) (h : d ≤ c) : (Instr.slice 34 (.slice A m c) none (some (.int .i64 (d : Int))) none).run Try.prog W = .ok (.slice A d c) W := by
  obtain ⟨i0, hi, hz0, hz1, hz2⟩ := info_parts infoZ
  have he : Try.prog.elem 34 = 3 := by kernel_rfl
  rw [run_slice_h W 34 A m c (by rw [he]; exact Try.underlying34) .i64 (d : Int) (by omega) (by omega), he]
  cases A <;> simp [sizeOf, typeInfo, hi, hz1, sliced, Result.andThen, Addr.add]
theorem tw_up (l : List Int) (i : Nat) (h : tw l i = true) : ∀ j, i ≤ j → tw l j = true := by
  intro j hj
  induction j with
  | zero => obtain rfl : i = 0 := by omega
            exact h
  | succ j ih =>
    rcases Nat.lt_or_ge j i with h1 | h1
    · obtain rfl : i = j + 1 := by omega
      exact h
    · show (tw l j || _) = true
      rw [ih h1]; rfl
set_option maxHeartbeats 4000000 in
theorem refInts_any (h : RdZ w w.heap.size A l) (hn : l.length = n) (hnc : n ≤ 10000) (h2 : RdZ w w.heap.size A2 l2) (hn2 : l2.length = n2) (hnc2 : n2 ≤ 10000) :
    Calls Try.prog 26 #[.slice A n c, .slice A2 n2 c2] w fun e w' => e = .returned (.bool (decide (l = l2))) ∧ Grown w w' := by
  have H := Lib.hid h
  have HN := Lib.hid hn
  have H2 := Lib.hid h2
  have HN2 := Lib.hid hn2
  obtain ⟨T, hT⟩ : ∃ T, T = decide (l = l2) := ⟨_, rfl⟩
  rw [← hT]
  have HT := Lib.hid hT
  clear h hn hT h2 hn2
  by_cases hnn : n = n2
  · subst hnn
    go_enter Try.func26, Try.ntmps26
    go_wp2
    go_loopw [5] (fun v5 wr => ∃ i : Nat, v5 = .int .i64 (i : Int) ∧ i ≤ n ∧ Hid (l.take i = l2.take i) ∧ Hid (Grown w wr)) (fun v5 _ => n - (intOf v5).toNat)
    case atStart => exact ⟨0, rfl, Nat.zero_le _, rfl, Grown.refl _⟩
    case round =>
      obtain ⟨i, rfl, hi, HI, HG⟩ := hrel
      by_cases hlt : i < n
      · have bi : (i : Int) < (n : Int) := by omega
        have hil : i < l.length := by rw [HN.out]; exact hlt
        have hil2 : i < l2.length := by rw [HN2.out]; exact hlt
        obtain ⟨b, off, hA, hb, hc⟩ := H.out.at_ hil
        obtain ⟨b2, off2, hA2, hb2, hc2⟩ := H2.out.at_ hil2
        obtain ⟨x, hx⟩ : ∃ x, x = l[i] := ⟨_, rfl⟩
        obtain ⟨y, hy⟩ : ∃ y, y = l2[i] := ⟨_, rfl⟩
        have HX := Lib.hid (show x = y → l.take (i + 1) = l2.take (i + 1) from fun e => by rw [List.take_succ_eq_append_getElem hil, List.take_succ_eq_append_getElem hil2, HI.out, ← hx, ← hy, e])
        have HY := Lib.hid (show ¬ x = y → T = false from fun e => by rw [HT.out]; apply decide_eq_false; intro e2; apply e; rw [hx, hy]; simp only [e2])
        have GD := Lib.hid (show Grown w wr.drew from Below.drew HG.out)
        have SX := Lib.hid (show ∀ v : World, Grown w v → v.cell? ⟨b, off + i, none⟩ = some (.int .i64 x) ∧ v.cell? ⟨b2, off2 + i, none⟩ = some (.int .i64 y) from fun v hv => ⟨by rw [hv.cell (p := ⟨b, off + i, none⟩) hb, hc, hx], by rw [hv.cell (p := ⟨b2, off2 + i, none⟩) hb2, hc2, hy]⟩)
        subst hA hA2
        clear hx hy hc hc2 hil hil2
        go_wp2_with fail
        refine restS_begin (fun v : World => v.cell? ⟨b, off + i, none⟩ = some (.int .i64 x) ∧ v.cell? ⟨b2, off2 + i, none⟩ = some (.int .i64 y)) (by kernel_rfl) ?_
        generalize wr.drew = wd at GD ⊢
        have S0 := Lib.hid (SX.out wd GD.out)
        refine restS_take (i := 0) S0.out rfl (by kernel_rfl) (by kernel_rfl) (by kernel_rfl) (by rfl) (fun v hv => by obtain ⟨s0, s1⟩ := hv; go_simp; try with_reducible rfl) ?_
        try simp only [Act.put, List.setIfInBounds_toArray, List.set_cons_zero, List.set_cons_succ]
        refine restS_take (i := 1) S0.out rfl (by kernel_rfl) (by kernel_rfl) (by kernel_rfl) (by rfl) (fun v hv => by obtain ⟨s0, s1⟩ := hv; go_simp; try with_reducible rfl) ?_
        try simp only [Act.put, List.setIfInBounds_toArray, List.set_cons_zero, List.set_cons_succ]
        refine restS_take (i := 2) S0.out rfl (by kernel_rfl) (by kernel_rfl) (by kernel_rfl) (by rfl) (fun v hv => by obtain ⟨s0, s1⟩ := hv; go_simp; try with_reducible rfl) ?_
        try simp only [Act.put, List.setIfInBounds_toArray, List.set_cons_zero, List.set_cons_succ]
        refine restS_take (i := 3) S0.out rfl (by kernel_rfl) (by kernel_rfl) (by kernel_rfl) (by rfl) (fun v hv => by obtain ⟨s0, s1⟩ := hv; go_simp; try with_reducible rfl) ?_
        try simp only [Act.put, List.setIfInBounds_toArray, List.set_cons_zero, List.set_cons_succ]
        refine restS_take (i := 4) S0.out rfl (by kernel_rfl) (by kernel_rfl) (by kernel_rfl) (by rfl) (fun v hv => by obtain ⟨s0, s1⟩ := hv; go_simp; try with_reducible rfl) ?_
        try simp only [Act.put, List.setIfInBounds_toArray, List.set_cons_zero, List.set_cons_succ]
        refine restS_take (i := 5) S0.out rfl (by kernel_rfl) (by kernel_rfl) (by kernel_rfl) (by rfl) (fun v hv => by obtain ⟨s0, s1⟩ := hv; go_simp; try with_reducible rfl) ?_
        try simp only [Act.put, List.setIfInBounds_toArray, List.set_cons_zero, List.set_cons_succ]
        refine restS_take (i := 6) S0.out rfl (by kernel_rfl) (by kernel_rfl) (by kernel_rfl) (by rfl) (fun v hv => by obtain ⟨s0, s1⟩ := hv; go_simp; try with_reducible rfl) ?_
        try simp only [Act.put, List.setIfInBounds_toArray, List.set_cons_zero, List.set_cons_succ]
        refine restS_take (i := 7) S0.out rfl (by kernel_rfl) (by kernel_rfl) (by kernel_rfl) (by rfl) (fun v hv => by obtain ⟨s0, s1⟩ := hv; go_simp; try with_reducible rfl) ?_
        try simp only [Act.put, List.setIfInBounds_toArray, List.set_cons_zero, List.set_cons_succ]
        refine restS_take (i := 8) S0.out rfl (by kernel_rfl) (by kernel_rfl) (by kernel_rfl) (by rfl) (fun v hv => by obtain ⟨s0, s1⟩ := hv; go_simp; try with_reducible rfl) ?_
        try simp only [Act.put, List.setIfInBounds_toArray, List.set_cons_zero, List.set_cons_succ]
        refine restS_done (by kernel_rfl) ?_
        by_cases hxy : x = y
        · have HC := Lib.hid (HX.out hxy)
          subst hxy
          go_wp2
          exact ⟨⟨i + 1, by simp, by omega, HC.out, GD.out⟩, by simp [intOf]; omega⟩
        · have HC := Lib.hid (HY.out hxy)
          go_wp2
          go_ret
          exact ⟨by rw [HC.out]; rfl, GD.out⟩
      · have bi : ¬ ((i : Int) < (n : Int)) := by omega
        have HE := Lib.hid (show T = true by
          rw [HT.out]
          apply decide_eq_true
          have := HI.out
          rwa [List.take_of_length_le (by rw [HN.out]; omega), List.take_of_length_le (by rw [HN2.out]; omega)] at this)
        go_wp2
        go_ret
        exact ⟨by rw [HE.out]; rfl, HG.out⟩
  · have bn : ¬ (n : Int) = (n2 : Int) := by omega
    have HE := Lib.hid (show T = false by rw [HT.out]; apply decide_eq_false; intro e; apply hnn; rw [← HN.out, ← HN2.out, e])
    go_enter Try.func26, Try.ntmps26
    go_wp2
    go_ret
    exact ⟨by rw [HE.out]; rfl, Grown.refl _⟩
end
end Go.Proofs.Ythakdjaaknbmpaa.S15
