/-
  The reference's lists of numbers (space): has, without, Put.
-/
import Derived.Test.YtdeojgdjjckoeaaSpL
namespace Go.Proofs.Ytdeojgdjjckoeaa.S15
open Cf
open Go.RowKit
set_option linter.unusedVariables false
set_option linter.unusedSimpArgs false
section
variable {w : World} {A : Option Addr} {n c : Nat} {l : List Int}
theorem take_has (l : List Int) (m : Int) (i : Nat) (hi : i < l.length) : (l.take (i + 1)).contains m = ((l.take i).contains m || (l[i] == m)) := by
  rw [List.take_succ_eq_append_getElem hi]
  simp only [List.contains_append, List.contains_cons, List.contains_nil, Bool.or_false]
  rw [Bool.beq_comm]
theorem refHas_any (B : Nat) (h : RdZ w B A l) (hn : l.length = n) (hn2 : n ≤ 100000) (m : Int) :
    Calls Try.prog 32 #[.slice A n c, .int .i64 m] w fun e w' => e = .returned (.bool (l.contains m)) ∧ w' = w := by
  have H := Lib.hid h
  have HN := Lib.hid hn
  obtain ⟨R, hR⟩ : ∃ R, R = l.contains m := ⟨_, rfl⟩
  rw [← hR]
  have HR := Lib.hid hR
  clear h hn hR
  go_enter Try.func32, Try.ntmps32
  go_wp2
  go_loopw [5] (fun v5 wr => ∃ i : Nat, v5 = .int .i64 (i : Int) ∧ i ≤ n ∧ Hid ((l.take i).contains m = false) ∧ wr = w) (fun v5 _ => n - (intOf v5).toNat)
  case atStart => exact ⟨0, rfl, Nat.zero_le _, rfl, rfl⟩
  case round =>
    obtain ⟨i, rfl, hi, HI, rfl⟩ := hrel
    by_cases hlt : i < n
    · have bi : (i : Int) < (n : Int) := by omega
      have hil : i < l.length := by rw [HN.out]; exact hlt
      obtain ⟨b, off, hA, hb, hc⟩ := H.out.at_ hil
      obtain ⟨x, hx⟩ : ∃ x, x = l[i] := ⟨_, rfl⟩
      have HX := Lib.hid (show (l.take (i + 1)).contains m = (x == m) by rw [take_has l m i hil, HI.out, hx]; rfl)
      have HY := Lib.hid (show x = m → l.contains m = true from fun e => by rw [← e, hx]; simp)
      rw [← hx] at hc
      subst hA
      clear hx hil
      by_cases hxm : x = m
      · have HC := Lib.hid (HY.out hxm)
        subst hxm
        go_wp2
        go_ret
        exact ⟨by rw [HR.out, HC.out]; rfl, rfl⟩
      · have HC := Lib.hid (show (l.take (i + 1)).contains m = false by rw [HX.out]; simpa using hxm)
        go_wp2
        exact ⟨⟨i + 1, by simp, by omega, HC.out, trivial⟩, by simp [intOf]; omega⟩
    · have bi : ¬ ((i : Int) < (n : Int)) := by omega
      have HC := Lib.hid (show l.contains m = false by
        have := HI.out
        rwa [List.take_of_length_le (by rw [HN.out]; omega)] at this)
      go_wp2
      go_ret
      exact ⟨by rw [HR.out, HC.out]; rfl, rfl⟩
/-- append of one number. -/
theorem wpList_appZ {w : World} {base : Nat} {A : Option Addr} {c n c2 g2 : Nat} {l : List Int} {x : Int} {ops : Array Oper} {rest : List Oper} {o : Oper} {a : Act} {Q : Exit → Act → World → Prop} (hgd : o.guard = none) (s y : Operand) (ho : o.op = .call { callee := .builtin .append, args := #[s, y], argTypes := #[30, 30] })
    (hn : l.length = n) (hs : a.eval s = .slice A n c) (h : OwZ w base A c l) (hx : a.eval y = .slice (some ⟨g2, 0, none⟩) 1 c2) (h2 : w.heap[g2]? = some (.cells #[.int .i64 x] 3 (0, 0))) (hl : n ≤ 100000) (hbase : base ≤ w.heap.size)
    (hk : ∀ A' c' w', OwZ w' base A' c' (l ++ [x]) → Below base w w' → wpList Try.prog ops Q rest (a.put o.dst (.slice A' (n + 1) c')) w') : wpList Try.prog ops Q (o :: rest) a w := by
  obtain ⟨i0, hi, hz, hz1, hz2⟩ := info_parts infoZ
  refine wpList_appOw (e := 3) Try.underlying30 hi hz hz1 hz2 rfl (by omega) hgd s y ho (n := n) (vs := l.map zv) (u := zv x) (by rw [List.length_map]; exact hn) hs h hx (cell_of_row w g2 0 _ _ (0, 0) h2) rfl hl hbase ?_
  intro A' c' w' ho' hg hm
  refine hk A' c' w' ?_ ?_
  · unfold OwZ
    rw [List.map_append]
    exact ho'
  · exact (Below.refl _ _).grown hg hbase fun k hk => by
      obtain ⟨x, hx, rfl⟩ := own_blk hk.symm
      exact (Ow.lt h x hx).1
set_option maxHeartbeats 4000000 in
theorem refWithout_any (h : RdZ w w.heap.size A l) (hn : l.length = n) (hn2 : n ≤ 10000) (m : Int) :
    Calls Try.prog 33 #[.slice A n c, .int .i64 m] w fun e w' => ∃ A' c', e = .returned (.slice A' (wo l m).length c') ∧ OwZ w' w.heap.size A' c' (wo l m) ∧ Grown w w' := by
  have H := Lib.hid h
  have HN := Lib.hid hn
  clear h hn
  go_enter Try.func33, Try.ntmps33
  go_wp2
  go_loopw [5, 6] (fun v5 v6 wr => ∃ (i q : Nat) (A5 : Option Addr) (c5 : Nat), v5 = .slice A5 q c5 ∧ v6 = .int .i64 (i : Int) ∧ i ≤ n ∧ q ≤ i ∧ Hid ((wo (l.take i) m).length = q) ∧ Hid (OwZ wr w.heap.size A5 c5 (wo (l.take i) m)) ∧ Hid (Grown w wr)) (fun _ v6 _ => n - (intOf v6).toNat)
  case atStart => exact ⟨0, 0, none, 0, rfl, rfl, Nat.zero_le _, Nat.le_refl _, rfl, OwZ.nil _ _, Grown.refl _⟩
  case round =>
    obtain ⟨i, q, A5, c5, rfl, rfl, hi, hq, HQ, HO, HG⟩ := hrel
    by_cases hlt : i < n
    · have bi : (i : Int) < (n : Int) := by omega
      have hil : i < l.length := by rw [HN.out]; exact hlt
      obtain ⟨b, off, hA, hb, hc⟩ := H.out.at_ hil
      obtain ⟨x, hx⟩ : ∃ x, x = l[i] := ⟨_, rfl⟩
      have HT := Lib.hid (show wo (l.take (i + 1)) m = wo (l.take i) m ++ wo [x] m by rw [List.take_succ_eq_append_getElem hil, wo_app, hx])
      have hcr : wr.cell? ⟨b, off + i, none⟩ = some (.int .i64 x) := by rw [HG.out.cell (p := ⟨b, off + i, none⟩) hb, hc, hx]
      subst hA
      clear hx hil hc
      by_cases hxm : x = m
      · have HC := Lib.hid (show wo (l.take (i + 1)) m = wo (l.take i) m by rw [HT.out, hxm]; simp [wo])
        subst hxm
        go_wp2
        exact ⟨⟨i + 1, q, A5, c5, rfl, by simp, by omega, by omega, by show _ = _; rw [HC.out]; exact HQ.out, by show OwZ _ _ _ _ _; rw [HC.out]; exact HO.out, HG.out⟩, by simp [intOf]; omega⟩
      · have HC := Lib.hid (show wo (l.take (i + 1)) m = wo (l.take i) m ++ [x] by rw [HT.out]; simp [wo, hxm])
        go_wp2_with (first
          | (at_builtin
             refine wpList_appZ rfl (.tmp 19) (.tmp 24) rfl (base := w.heap.size) (l := wo (l.take i) m) (x := x) HQ.out rfl (HO.out.grow (alloc_below wr _)) rfl (heap_alloc_new wr _) (by omega) (by have := HG.out.size; simp; omega) ?_
             intro A9 c9 w9 ho9 hb9
             have O9 := Lib.hid ho9
             have G9 := Lib.hid (show Grown w w9 from Below.trans HG.out (((Below.refl _ wr).alloc HG.out.size _).trans hb9))
             clear ho9 hb9))
        exact ⟨⟨i + 1, q + 1, A9, c9, rfl, by simp, by omega, by omega, by show _ = _; rw [HC.out, List.length_append, HQ.out]; rfl, by show OwZ _ _ _ _ _; rw [HC.out]; exact O9.out, G9.out⟩, by simp [intOf]; omega⟩
    · have bi : ¬ ((i : Int) < (n : Int)) := by omega
      have HE := Lib.hid (show wo (l.take i) m = wo l m by rw [List.take_of_length_le (by rw [HN.out]; omega)])
      go_wp2
      go_ret
      exact ⟨A5, c5, by rw [← HE.out, HQ.out]; rfl, by rw [← HE.out]; exact HO.out, HG.out⟩
/-- append of a row of numbers. -/
theorem run_appZ {w : World} {base : Nat} {A : Option Addr} {c : Nat} {l : List Int} (h : OwZ w base A c l) {B : Nat} {A2 : Option Addr} (c2 : Nat) {l2 : List Int} (h2 : RdZ w B A2 l2) (hl : l.length + l2.length ≤ 100000) (hbase : base ≤ w.heap.size) (ty : TypeId) :
    ∃ A' c' w', (Builtin.append_ #[30, 30] ty #[.slice A l.length c, .slice A2 l2.length c2]).run Try.prog w = .ok (.slice A' (l ++ l2).length c') w' ∧ OwZ w' base A' c' (l ++ l2) ∧ Below base w w' := by
  obtain ⟨i0, hi, hz0, hz1, hz2⟩ := info_parts infoZ
  have h' : w.ownsRow base 3 1 (.slice A l.length c) l.length (l.map zv) := by have := h; unfold OwZ Ow at this; rwa [List.length_map] at this
  by_cases hn : A2 = none
  · subst hn
    have hl2 : l2 = [] := by
      rcases h2 with h2 | ⟨b, off, e, _⟩
      · exact h2
      · cases e
    subst hl2
    refine ⟨A, c, w, ?_, by simpa using h, Below.refl _ _⟩
    rcases h'.2 with ⟨h1, h3⟩ | ⟨g, cap, cur, h1, _, _, hnc, _⟩
    · simp only [Value.slice.injEq] at h1
      obtain ⟨rfl, _, rfl⟩ := h1
      have : l = [] := List.eq_nil_of_length_eq_zero h3
      subst this
      simp [Builtin.append_, run_underlying Try.underlying30, sizeOf, typeInfo, hi, Builtin.lenOf, Builtin.firstCells]
    · simp only [Value.slice.injEq] at h1
      obtain ⟨rfl, _, rfl⟩ := h1
      simp [Builtin.append_, run_underlying Try.underlying30, sizeOf, typeInfo, hi, Builtin.lenOf, Builtin.firstCells, hnc, storeCells]
  · obtain ⟨ad, rfl⟩ : ∃ ad, A2 = some ad := by cases A2 with | none => exact absurd rfl hn | some ad => exact ⟨ad, rfl⟩
    have hcells : ∀ j u, (l2.map zv)[j]? = some u → w.cell? (ad.add j) = some u := by
      intro j u hu
      rcases h2 with rfl | ⟨b, off, e, hb, hc⟩
      · simp at hu
      · simp only [Option.some.injEq] at e
        subst e
        have hj : j < l2.length := by
          have := (List.getElem?_eq_some_iff.1 hu).1
          simpa using this
        have h3 := hc j hj
        simp [hj, zv] at hu
        subst hu
        by_cases h0 : j = 0
        · subst h0; simpa [Addr.add] using h3
        · simpa [Addr.add, h0] using h3
    obtain ⟨v', w', hrun, hown', hg, _⟩ := run_append_own (P := Try.prog) w base 30 ty 3 i0 _ 1 8 Try.underlying30 hi hz0 hz1 hz2 rfl (by omega) _ _ _ h' ad l2.length c2 (l2.map zv) (by simp) hcells (fun u hu => by simp only [List.mem_map] at hu; obtain ⟨x, _, rfl⟩ := hu; rfl)
      (by unfold maxLen; omega) (by omega) hbase
    have hv : ∃ A' c', v' = .slice A' (l ++ l2).length c' := by
      rcases hown'.2 with ⟨h1, h3⟩ | ⟨g, cap, cur, h1, _⟩
      · exact ⟨none, 0, by rw [h1]; simp at h3; simp [h3]⟩
      · exact ⟨some ⟨g, 0, none⟩, cap, by rw [h1]; simp⟩
    obtain ⟨A', c', rfl⟩ := hv
    refine ⟨A', c', w', hrun, ?_, ?_⟩
    · unfold OwZ Ow
      have e1 : (l ++ l2).length = l.length + l2.length := by simp
      rw [List.length_map, List.map_append]
      rw [e1] at hown' ⊢
      exact hown'
    · refine (Below.refl _ _).grown hg hbase fun k hk => ?_
      obtain ⟨x, hx, rfl⟩ := own_blk hk.symm
      exact (Ow.lt h x hx).1
theorem wpList_appZs {w : World} {base : Nat} {A A2 : Option Addr} {c n c2 n2 B : Nat} {l l2 : List Int} {ops : Array Oper} {rest : List Oper} {o : Oper} {a : Act} {Q : Exit → Act → World → Prop} (hgd : o.guard = none) (s y : Operand) (ho : o.op = .call { callee := .builtin .append, args := #[s, y], argTypes := #[30, 30] })
    (hn : l.length = n) (hs : a.eval s = .slice A n c) (h : OwZ w base A c l) (hn2 : l2.length = n2) (hx : a.eval y = .slice A2 n2 c2) (h2 : RdZ w B A2 l2) (hl : n + n2 ≤ 100000) (hbase : base ≤ w.heap.size)
    (hk : ∀ A' c' w', OwZ w' base A' c' (l ++ l2) → Below base w w' → wpList Try.prog ops Q rest (a.put o.dst (.slice A' (l ++ l2).length c')) w') : wpList Try.prog ops Q (o :: rest) a w := by
  subst hn hn2
  refine wpList_plain hgd fun K hK => ?_
  obtain ⟨A', c', w', hrun, h3, h4⟩ := run_appZ h c2 h2 hl hbase o.type
  unfold Oper.wp execOp
  simp only [ho, resolve, invoke, builtin, Sem.run_bind, Sem.run_pure, Result.andThen_ok, List.map_toArray, List.map_cons, List.map_nil, hs, hx, hrun]
  exact hK _ _ (hk A' c' w' h3 h4)
theorem RdZ.cut {w : World} {B : Nat} {A : Option Addr} {l : List Int} (h : RdZ w B A l) {k cap : Nat} (hc : l.length ≤ cap) : RdZ w B (if cap = k then A else A.map (·.add k)) (l.drop k) := by
  by_cases hk : l.length ≤ k
  · exact .inl (by simpa using hk)
  · rw [if_neg (by omega)]
    rcases h with rfl | ⟨b, off, rfl, hb, hc⟩
    · exact .inl (by simp)
    · refine .inr ⟨b, off + k, ?_, hb, fun j hj => ?_⟩
      · by_cases h0 : k = 0 <;> simp [Addr.add, h0]
      · simp at hj
        have := hc (k + j) (by omega)
        rw [show off + k + j = off + (k + j) by omega, this]
        simp
theorem cutZ (W : World) (A : Option Addr) (m c k : Nat) (h : k ≤ m) : (Instr.slice 30 (.slice A m c) (some (.int .i64 (k : Int))) none none).run Try.prog W = .ok (.slice (if c = k then A else A.map (·.add k)) (m - k) (c - k)) W := by
  obtain ⟨i0, hi, hz0, hz1, hz2⟩ := info_parts infoZ
  have he : Try.prog.elem 30 = 3 := by kernel_rfl
  rw [run_slice_l W 30 A m c (by rw [he]; exact Try.underlying30) .i64 (k : Int) (by omega) (by omega), he]
  simp [sizeOf, typeInfo, hi, hz1, sliced, Result.andThen]
theorem lo_take (l : List Int) (m : Int) (i : Nat) (hi : i ≤ l.length) (hlt : ∀ j (h : j < i), l[j]'(by omega) < m) (hge : ∀ h : i < l.length, ¬ l[i] < m) : lo l m = l.take i := by
  unfold lo
  induction l generalizing i with
  | nil => simp
  | cons x l ih =>
    cases i with
    | zero =>
      have := hge (by simp)
      simp only [List.getElem_cons_zero] at this
      simp [List.takeWhile_cons, this]
    | succ i =>
      have h0 := hlt 0 (by omega)
      simp only [List.getElem_cons_zero] at h0
      rw [List.takeWhile_cons, if_pos (by simpa using h0), List.take_succ_cons]
      rw [ih i (by simpa using hi) (fun j hj => by simpa using hlt (j + 1) (by omega)) (fun h hx => hge (Nat.succ_lt_succ h) hx)]
set_option maxHeartbeats 4000000 in
theorem refPut_any {w : World} {A : Option Addr} {n c : Nat} {l : List Int} (h : RdZ w w.heap.size A l) (hn : l.length = n) (hnc : n ≤ c) (hn2 : n ≤ 10000) (m : Int) :
    Calls Try.prog 29 #[.slice A n c, .int .i64 m] w fun e w' => ∃ A' c', e = .returned (.slice A' (ins l m).length c') ∧ OwZ w' w.heap.size A' c' (ins l m) ∧ Grown w w' := by
  have H := Lib.hid h
  have HN := Lib.hid hn
  clear h hn
  go_enter Try.func29, Try.ntmps29
  go_wp2
  go_loopw [5, 6] (fun v5 v6 wr => ∃ (i : Nat) (A5 : Option Addr) (c5 : Nat), v5 = .slice A5 i c5 ∧ v6 = .int .i64 (i : Int) ∧ i ≤ n ∧ Hid ((l.take i).length = i) ∧ Hid (∀ j (h : j < l.length), j < i → l[j] < m) ∧ Hid (OwZ wr w.heap.size A5 c5 (l.take i)) ∧ Hid (Grown w wr)) (fun _ v6 _ => n - (intOf v6).toNat)
  case atStart => exact ⟨0, none, 0, rfl, rfl, Nat.zero_le _, rfl, (fun j h hj => by omega), OwZ.nil _ _, Grown.refl _⟩
  case round =>
    obtain ⟨i, A5, c5, rfl, rfl, hi, HQ, HL, HO, HG⟩ := hrel
    have stop : (∀ h : i < l.length, ¬ l[i] < m) → Hid (ins l m = (l.take i ++ [m]) ++ l.drop i) := fun hge => by
      have e := lo_take l m i (by rw [HN.out]; exact hi) (fun j hj => HL.out j (by rw [HN.out]; omega) hj) hge
      show ins l m = _
      unfold ins
      rw [e, List.length_take, Nat.min_eq_left (by rw [HN.out]; exact hi)]
      simp
    by_cases hlt : i < n
    · have bi : (i : Int) < (n : Int) := by omega
      have hil : i < l.length := by rw [HN.out]; exact hlt
      obtain ⟨b, off, hA, hb, hc⟩ := H.out.at_ hil
      obtain ⟨x, hx⟩ : ∃ x, x = l[i] := ⟨_, rfl⟩
      have HT := Lib.hid (show l.take (i + 1) = l.take i ++ [x] by rw [List.take_succ_eq_append_getElem hil, hx])
      have HX := Lib.hid hx
      have hcr : wr.cell? ⟨b, off + i, none⟩ = some (.int .i64 x) := by rw [HG.out.cell (p := ⟨b, off + i, none⟩) hb, hc, hx]
      by_cases hxm : x < m
      · subst hA
        clear hx hc stop
        have HLn := Lib.hid (show ∀ j (h : j < l.length), j < i + 1 → l[j] < m from fun j hj hji => by
          by_cases e : j = i
          · subst e; rw [← HX.out]; exact hxm
          · exact HL.out j hj (by omega))
        clear hil HX
        go_wp2_with (first
          | (at_builtin
             refine wpList_appZ rfl (.tmp 19) (.tmp 24) rfl (base := w.heap.size) (l := l.take i) (x := x) HQ.out rfl (HO.out.grow (alloc_below wr _)) rfl (heap_alloc_new wr _) (by omega) (by have := HG.out.size; simp; omega) ?_
             intro A9 c9 w9 ho9 hb9
             have O9 := Lib.hid ho9
             have G9 := Lib.hid (show Grown w w9 from Below.trans HG.out (((Below.refl _ wr).alloc HG.out.size _).trans hb9))
             clear ho9 hb9))
        exact ⟨⟨i + 1, A9, c9, rfl, by simp, by omega, by show _ = _; rw [HT.out, List.length_append, HQ.out]; rfl, HLn.out, by show OwZ _ _ _ _ _; rw [HT.out]; exact O9.out, G9.out⟩, by simp [intOf]; omega⟩
      · have HI := stop (fun h => by rw [← hx]; exact hxm)
        have hRd := Lib.hid (show RdZ w w.heap.size A l from H.out)
        obtain ⟨A7, hA7⟩ : ∃ A7, A7 = (if c = i then A else A.map (·.add i)) := ⟨_, rfl⟩
        have hcut : ∀ V : World, (Instr.slice 30 (.slice A n c) (some (.int .i64 (i : Int))) none none).run Try.prog V = .ok (.slice A7 (n - i) (c - i)) V := fun V => by rw [hA7]; exact cutZ V A n c i hi
        have H7 := Lib.hid (show RdZ w w.heap.size A7 (l.drop i) by rw [hA7]; exact hRd.out.cut (by rw [HN.out]; exact hnc))
        have HD := Lib.hid (show (l.drop i).length = n - i by rw [List.length_drop, HN.out])
        subst hA
        clear hx hc HX hil
        clear hA7 stop
        go_wp2_with (first
          | (at_builtin
             refine wpList_appZ rfl (.tmp 28) (.tmp 30) rfl (base := w.heap.size) (l := l.take i) (x := m) HQ.out rfl (HO.out.grow (alloc_below wr _)) rfl (heap_alloc_new wr _) (by omega) (by have := HG.out.size; simp; omega) ?_
             intro A9 c9 w9 ho9 hb9
             have O9 := Lib.hid ho9
             have G9 := Lib.hid (show Grown w w9 from Below.trans HG.out (((Below.refl _ wr).alloc HG.out.size _).trans hb9))
             have L9 := Lib.hid (show (l.take i ++ [m]).length = i + 1 by rw [List.length_append, HQ.out]; rfl)
             clear ho9 hb9)
          | (at_builtin
             refine wpList_appZs rfl (.tmp 32) (.tmp 35) rfl (base := w.heap.size) (l := l.take i ++ [m]) (l2 := l.drop i) L9.out rfl O9.out HD.out rfl (H7.out.grow G9.out) (by omega) G9.out.size ?_
             intro A8 c8 w8 ho8 hb8
             rw [← HI.out] at ho8 ⊢
             have O8 := Lib.hid ho8
             have G8 := Lib.hid (show Grown w w8 from Below.trans G9.out hb8)
             clear ho8 hb8))
        go_ret
        exact ⟨A8, c8, rfl, O8.out, G8.out⟩
    · have bi : ¬ ((i : Int) < (n : Int)) := by omega
      have HI := stop (fun h => by rw [HN.out] at h; omega)
      have hRd := Lib.hid (show RdZ w w.heap.size A l from H.out)
      obtain ⟨A7, hA7⟩ : ∃ A7, A7 = (if c = i then A else A.map (·.add i)) := ⟨_, rfl⟩
      have hcut : ∀ V : World, (Instr.slice 30 (.slice A n c) (some (.int .i64 (i : Int))) none none).run Try.prog V = .ok (.slice A7 (n - i) (c - i)) V := fun V => by rw [hA7]; exact cutZ V A n c i hi
      have H7 := Lib.hid (show RdZ w w.heap.size A7 (l.drop i) by rw [hA7]; exact hRd.out.cut (by rw [HN.out]; exact hnc))
      have HD := Lib.hid (show (l.drop i).length = n - i by rw [List.length_drop, HN.out])
      clear hA7 stop
      go_wp2_with (first
        | (at_builtin
           refine wpList_appZ rfl (.tmp 28) (.tmp 30) rfl (base := w.heap.size) (l := l.take i) (x := m) HQ.out rfl (HO.out.grow (alloc_below wr _)) rfl (heap_alloc_new wr _) (by omega) (by have := HG.out.size; simp; omega) ?_
           intro A9 c9 w9 ho9 hb9
           have O9 := Lib.hid ho9
           have G9 := Lib.hid (show Grown w w9 from Below.trans HG.out (((Below.refl _ wr).alloc HG.out.size _).trans hb9))
           have L9 := Lib.hid (show (l.take i ++ [m]).length = i + 1 by rw [List.length_append, HQ.out]; rfl)
           clear ho9 hb9)
        | (at_builtin
           refine wpList_appZs rfl (.tmp 32) (.tmp 35) rfl (base := w.heap.size) (l := l.take i ++ [m]) (l2 := l.drop i) L9.out rfl O9.out HD.out rfl (H7.out.grow G9.out) (by omega) G9.out.size ?_
           intro A8 c8 w8 ho8 hb8
           rw [← HI.out] at ho8 ⊢
           have O8 := Lib.hid ho8
           have G8 := Lib.hid (show Grown w w8 from Below.trans G9.out hb8)
           clear ho8 hb8))
      go_ret
      exact ⟨A8, c8, rfl, O8.out, G8.out⟩
end
end Go.Proofs.Ytdeojgdjjckoeaa.S15
