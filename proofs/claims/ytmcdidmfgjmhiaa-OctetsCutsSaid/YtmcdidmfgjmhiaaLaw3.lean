/-
  The walk of OctetsCuts: the pieces are the reference's, together the whole, and in memory of their own.
-/
import Derived.Test.YtmcdidmfgjmhiaaCrf
import Derived.Test.YtmcdidmfgjmhiaaGrow
import Derived.RegionTactic
namespace Go.Proofs.Ytmcdidmfgjmhiaa
open Go.RowKit
set_option linter.unusedVariables false
set_option linter.unusedSimpArgs false

theorem cut_all (A : Option Addr) (n c : Nat) (l : List UInt8) (size : Int) (w : World) (hn : l.length = n) (h : Rd w w.heap.size A l) (hc : n ≤ c) (hl : n ≤ 1000000) (hs : size ≤ 1000000) :
    Calls Try.prog 16 #[.slice A n c, .int .i64 size] w (MakesL w (cutL size.toNat l)) := by
  by_cases h1 : size < 1
  · rw [show size.toNat = 0 by omega, cutL_zero]
    exact cut_none A n c l size w h1
  · obtain ⟨s, rfl⟩ : ∃ s : Nat, size = (s : Int) := ⟨size.toNat, by omega⟩
    rw [Int.toNat_natCast]
    exact cut_some A n c l s w hn h hc hl (by omega) (by omega)
theorem refCut_all (A : Option Addr) (n c : Nat) (l : List UInt8) (size : Int) (w : World) (hn : l.length = n) (h : Rd w w.heap.size A l) (hc : n ≤ c) (hl : n ≤ 1000000) (hs : size ≤ 1000000) :
    Calls Try.prog 19 #[.slice A n c, .int .i64 size] w (MakesL w (cutL size.toNat l)) := by
  by_cases h1 : size < 1
  · rw [show size.toNat = 0 by omega, cutL_zero]
    exact refCut_none A n c l size w h1
  · obtain ⟨s, rfl⟩ : ∃ s : Nat, size = (s : Int) := ⟨size.toNat, by omega⟩
    rw [Int.toNat_natCast]
    exact refCut_some A n c l s w hn h hc hl (by omega) (by omega)

theorem cutL_facts (s : Nat) : ∀ (k : Nat) (l : List UInt8), l.length ≤ k → (0 < s → (cutL s l).flatten = l) ∧ (cutL s l).length ≤ l.length ∧ ∀ p ∈ cutL s l, 0 < p.length := by
  intro k
  induction k with
  | zero =>
    intro l hl
    have : l = [] := List.eq_nil_of_length_eq_zero (by omega)
    subst this
    rw [cutL_nil]
    simp
  | succ k ih =>
    intro l hl
    by_cases h0 : l = [] ∨ s = 0
    · rcases h0 with rfl | rfl
      · rw [cutL_nil]; simp
      · rw [cutL_zero]; simp
    · have h1 : 0 < l.length := List.length_pos_iff.2 (fun e => h0 (.inl e))
      have h2 : 0 < s := by
        rcases Nat.eq_zero_or_pos s with h | h
        · exact absurd (.inr h) h0
        · exact h
      obtain ⟨i1, i2, i3⟩ := ih (l.drop s) (by simp; omega)
      rw [cutL_step s l h1 h2]
      refine ⟨fun h => ?_, ?_, ?_⟩
      · rw [List.flatten_cons, i1 h, List.take_append_drop]
      · simp at i2 ⊢; omega
      · intro p hp
        rcases List.mem_cons.1 hp with rfl | hp
        · simp; omega
        · exact i3 p hp

/-- Cells that hold the pieces, each of which has a first byte of its own. -/
def PInv (w : World) (B q : Nat) (A : Option Addr) : Prop :=
  q = 0 ∨ ∃ g cur, A = some ⟨g, 0, none⟩ ∧ w.heap[g]? = some (.cells cur 22 (0, 0)) ∧ ∀ i, i < q → ∃ gi ni ci bl x, cur[i]? = some (.slice (some ⟨gi, 0, none⟩) ni ci) ∧ 0 < ni ∧ B ≤ gi ∧ w.heap[gi]? = some (.cells bl 5 (0, 0)) ∧ bl[0]? = some (.int .u8 x)

theorem PInv.of_own {w : World} {B c : Nat} {A : Option Addr} {ls : List (List UInt8)} (h : OwnL w B A c ls) (hp : ∀ p ∈ ls, 0 < p.length) : PInv w B ls.length A := by
  obtain ⟨vs, h1, h2, h3⟩ := h
  rcases h2.2 with ⟨h4, h5⟩ | ⟨g, cap, cur, h4, h5, h6, h7, h8, h9, h10⟩
  · exact .inl h5
  · simp only [Value.slice.injEq] at h4
    obtain ⟨rfl, _, rfl⟩ := h4
    refine .inr ⟨g, cur, rfl, h6, fun i hi => ?_⟩
    obtain ⟨A', c', e, ho⟩ := h3 i hi (by omega)
    have hpos := hp ls[i] (List.getElem_mem _)
    rcases ho.form with ⟨_, e0, _⟩ | ⟨gi, bl, rfl, hB, hg, hle, ht⟩
    · rw [e0] at hpos; simp at hpos
    · refine ⟨gi, ls[i].length, c', bl, (ls[i][0].toNat : Int), ?_, hpos, hB, hg, ?_⟩
      · have h11 : (cur.toList.take (ls.length * 1))[i]? = vs[i]? := by rw [h10]
        rw [List.getElem?_take, if_pos (by omega), List.getElem?_eq_getElem (by omega : i < vs.length), e] at h11
        simpa using h11
      · have h11 : (bl.toList.take ls[i].length)[0]? = (bvs ls[i])[0]? := by rw [ht]
        rw [List.getElem?_take, if_pos hpos] at h11
        simpa [bvs, bv, hpos] using h11
theorem PInv.at_ {w : World} {B q : Nat} {A : Option Addr} (h : PInv w B q A) {i : Nat} (hi : i < q) :
    ∃ g gi ni ci x, A = some ⟨g, 0, none⟩ ∧ w.cell? ⟨g, i, none⟩ = some (.slice (some ⟨gi, 0, none⟩) ni ci) ∧ 0 < ni ∧ B ≤ gi ∧ w.cell? ⟨gi, 0, none⟩ = some (.int .u8 x) ∧ w.frozen? ⟨gi, 0, none⟩ = false ∧ (∀ y, PInv (w.setCell ⟨gi, 0, none⟩ (.int .u8 y)) B q A) := by
  rcases h with h | ⟨g, cur, e, hg, hall⟩
  · omega
  · obtain ⟨gi, ni, ci, bl, x, h1, h2, h3, h4, h5⟩ := hall i hi
    refine ⟨g, gi, ni, ci, x, e, ?_, h2, h3, ?_, frozen_of_row w gi 0 bl 5 h4, fun y => ?_⟩
    · rw [cell_of_row w g i cur 22 (0, 0) hg, h1]
    · rw [cell_of_row w gi 0 bl 5 (0, 0) h4, h5]
    · have hne : g ≠ gi := by
        rintro rfl
        rw [hg] at h4
        injection h4 with h4
        injection h4 with _ ht
        exact absurd ht (by decide)
      refine .inr ⟨g, cur, e, by rw [Below.heap_setCell w _ _ g hne]; exact hg, fun j hj => ?_⟩
      obtain ⟨gj, nj, cj, bj, xj, k1, k2, k3, k4, k5⟩ := hall j hj
      by_cases hgj : gj = gi
      · subst hgj
        rw [h4] at k4
        injection k4 with k4
        injection k4 with k4
        subst k4
        refine ⟨gj, nj, cj, bl.setIfInBounds 0 (.int .u8 y), y, k1, k2, k3, heap_setCell_same w gj 0 bl 5 _ h4, ?_⟩
        have h0 : 0 < bl.size := (Array.getElem?_eq_some_iff.1 h5).1
        simp [h0]
      · exact ⟨gj, nj, cj, bj, xj, k1, k2, k3, by rw [Below.heap_setCell w _ _ gj hgj]; exact k4, k5⟩
theorem PInv.drew {w : World} {B q : Nat} {A : Option Addr} (h : PInv w B q A) : PInv w.drew B q A := h

set_option maxHeartbeats 4000000 in
theorem cuts_small (A : Option Addr) (n c : Nat) (l : List UInt8) (size : Int) (w : World) (h : Rd w w.heap.size A l) (hn : l.length = n) (hc : n ≤ c) (hl : n ≤ 500) (hs : size ≤ 2000) :
    Calls Try.prog 5 #[.slice A n c, .int .i64 size] w (Says w true) := by
  have Hn := Lib.hid hn
  have hfacts := cutL_facts size.toNat n l (by omega)
  obtain ⟨q, hq⟩ : ∃ q, (cutL size.toNat l).length = q := ⟨_, rfl⟩
  obtain ⟨r, hr⟩ : ∃ r, (fillL l size.toNat).length = r := ⟨_, rfl⟩
  have hqn : q ≤ n := by rw [← hq, ← hn]; exact hfacts.2.1
  have Hfl := Lib.hid (fun h : 0 < size => hfacts.1 (by omega))
  have Hpos := Lib.hid hfacts.2.2
  have Hq := Lib.hid hq
  have Hr := Lib.hid hr
  clear hn hfacts hq hr
  go_enter Try.func5, Try.ntmps5
  go_wp2_with fail
  refine (awake_any _).mono ?_
  rintro e w1 ⟨rfl, hb1⟩
  have S1 := Lib.hid (h.grow hb1)
  have Hb1 := Lib.hid (show Grown w w1 from hb1)
  clear hb1 h
  go_wp2_with (first
    | (at_builtin
       refine wpList_app0 rfl (.tmp 21) (.tmp 22) rfl rfl rfl Hn.out (S1.out.grow (alloc_below w1 _)) (by omega) ?_
       intro Ai ci w2 hr2 hc2 hb2
       have I0 := Lib.hid hr2
       have S0 := Lib.hid ((S1.out.grow (alloc_below w1 _)).grow hb2)
       have Hb := Lib.hid (Grown.trans (Grown.trans Hb1.out (alloc_below w1 _)) hb2)
       clear hr2 hb2 S1 Hb1)
    | fail)
  refine (cut_all _ _ _ l size _ Hn.out I0.out hc2 (by omega) (by omega)).mono ?_
  rintro e w3 ⟨Al, cl, rfl, ho3, hb3⟩
  rw [Hq.out]
  have Ol := Lib.hid ho3
  have G := Lib.hid (show Grown w2 w3 from hb3)
  have I3 := Lib.hid (I0.out.grow hb3)
  have S := Lib.hid (S0.out.grow hb3)
  clear ho3 hb3
  go_wp2_with fail
  refine (fill_any _ _ _ l size _ I3.out Hn.out (by omega) hs).mono ?_
  rintro e w4 ⟨Af, cf, rfl, ho4, hb4⟩
  rw [Hr.out]
  have Sf := Lib.hid ho4.rd
  replace S := Lib.hid (S.out.grow hb4)
  replace Ol := Lib.hid (Ol.out.grow hb4)
  replace G := Lib.hid (Grown.trans G.out hb4)
  clear hb4 ho4 I3
  go_wp2_with fail
  refine rest_start (by kernel_rfl) fun v4 hv4 => ?_
  replace S := Lib.hid (S.out.grow hv4)
  replace Sf := Lib.hid (Sf.out.grow hv4)
  replace Ol := Lib.hid (Ol.out.grow hv4)
  replace G := Lib.hid (Grown.trans G.out hv4)
  clear hv4
  by_cases h0 : 0 < size
  · skip
    refine rest_take (i := 0) rfl (by kernel_rfl) (by kernel_rfl) (by kernel_rfl) (by rfl) (fun w' hg => by go_simp; try with_reducible rfl) ?_
    try simp only [Act.put, List.setIfInBounds_toArray, List.set_cons_zero, List.set_cons_succ]
    refine rest_take (i := 1) rfl (by kernel_rfl) (by kernel_rfl) (by kernel_rfl) (by rfl) (fun w' hg => by go_simp; try with_reducible rfl) ?_
    try simp only [Act.put, List.setIfInBounds_toArray, List.set_cons_zero, List.set_cons_succ]
    refine rest_take (i := 2) rfl (by kernel_rfl) (by kernel_rfl) (by kernel_rfl) (by rfl) (fun w' hg => by go_simp; try with_reducible rfl) ?_
    try simp only [Act.put, List.setIfInBounds_toArray, List.set_cons_zero, List.set_cons_succ]
    refine rest_lone (i := 3) rfl (by kernel_rfl) (by rfl) (fun K hK => ?_)
    go_simp
    refine (refCut_all _ _ _ l size _ Hn.out S.out hc (by omega) (by omega)).mono ?_
    rintro e v5 ⟨A5, c5, rfl, ho5, hb5⟩
    rw [Hq.out]
    refine hK.out _ _ hb5 ?_
    replace S := Lib.hid (S.out.grow hb5)
    replace Sf := Lib.hid (Sf.out.grow hb5)
    replace Ol := Lib.hid (Ol.out.grow hb5)
    replace G := Lib.hid (Grown.trans G.out hb5)
    have R5 := Lib.hid ho5.rd
    clear hb5 ho5
    clear hK K
    try simp only [Act.put, List.setIfInBounds_toArray, List.set_cons_zero, List.set_cons_succ]
    refine rest_lone (i := 4) rfl (by kernel_rfl) (by rfl) (fun K hK => ?_)
    go_simp
    refine (pieces_same _ _ _ _ _ _ (cutL size.toNat l) _ Ol.out.rd R5.out Hq.out Hq.out (by have := Hq.out; omega)).mono ?_
    rintro e v6 ⟨rfl, hb6⟩
    refine hK.out _ _ hb6 ?_
    replace S := Lib.hid (S.out.grow hb6)
    replace Sf := Lib.hid (Sf.out.grow hb6)
    replace Ol := Lib.hid (Ol.out.grow hb6)
    replace G := Lib.hid (Grown.trans G.out hb6)
    clear hb6 R5
    clear hK K
    try simp only [Act.put, List.setIfInBounds_toArray, List.set_cons_zero, List.set_cons_succ]
    refine rest_take (i := 5) rfl (by kernel_rfl) (by kernel_rfl) (by kernel_rfl) (by rfl) (fun w' hg => by go_simp; try with_reducible rfl) ?_
    try simp only [Act.put, List.setIfInBounds_toArray, List.set_cons_zero, List.set_cons_succ]
    refine rest_take (i := 6) rfl (by kernel_rfl) (by kernel_rfl) (by kernel_rfl) (by rfl) (fun w' hg => by go_simp; try with_reducible rfl) ?_
    try simp only [Act.put, List.setIfInBounds_toArray, List.set_cons_zero, List.set_cons_succ]
    refine rest_take (i := 7) rfl (by kernel_rfl) (by kernel_rfl) (by kernel_rfl) (by rfl) (fun w' hg => by go_simp; try with_reducible rfl) ?_
    try simp only [Act.put, List.setIfInBounds_toArray, List.set_cons_zero, List.set_cons_succ]
    refine rest_take (i := 8) rfl (by kernel_rfl) (by kernel_rfl) (by kernel_rfl) (by rfl) (fun w' hg => by go_simp; try with_reducible rfl) ?_
    try simp only [Act.put, List.setIfInBounds_toArray, List.set_cons_zero, List.set_cons_succ]
    refine rest_take (i := 9) rfl (by kernel_rfl) (by kernel_rfl) (by kernel_rfl) (by rfl) (fun w' hg => by go_simp; try with_reducible rfl) ?_
    try simp only [Act.put, List.setIfInBounds_toArray, List.set_cons_zero, List.set_cons_succ]
    refine rest_take (i := 10) rfl (by kernel_rfl) (by kernel_rfl) (by kernel_rfl) (by rfl) (fun w' hg => by go_simp; try with_reducible rfl) ?_
    try simp only [Act.put, List.setIfInBounds_toArray, List.set_cons_zero, List.set_cons_succ]
    refine rest_take (i := 13) rfl (by kernel_rfl) (by kernel_rfl) (by kernel_rfl) (by rfl) (fun w' hg => by go_simp; try with_reducible rfl) ?_
    try simp only [Act.put, List.setIfInBounds_toArray, List.set_cons_zero, List.set_cons_succ]
    refine rest_take (i := 14) rfl (by kernel_rfl) (by kernel_rfl) (by kernel_rfl) (by rfl) (fun w' hg => by have hcv := conv_at S.out Hn.out c w' hg; go_simp; try with_reducible rfl) ?_
    try simp only [Act.put, List.setIfInBounds_toArray, List.set_cons_zero, List.set_cons_succ]
    refine rest_lone (i := 11) rfl (by kernel_rfl) (by rfl) (fun K hK => ?_)
    go_simp
    refine (all_any _ _ _ (cutL size.toNat l) _ Ol.out.rd Hq.out (by omega) (by rw [Hfl.out h0, Hn.out]; omega)).mono ?_
    rw [Hfl.out h0]
    rintro e v7 ⟨A7, c7, rfl, ho7, hb7⟩
    refine hK.out _ _ hb7 ?_
    replace S := Lib.hid (S.out.grow hb7)
    replace Sf := Lib.hid (Sf.out.grow hb7)
    replace Ol := Lib.hid (Ol.out.grow hb7)
    replace G := Lib.hid (Grown.trans G.out hb7)
    have R7 := Lib.hid ho7.rd
    clear hb7 ho7
    clear hK K
    try simp only [Act.put, List.setIfInBounds_toArray, List.set_cons_zero, List.set_cons_succ]
    refine rest_take (i := 12) rfl (by kernel_rfl) (by kernel_rfl) (by kernel_rfl) (by rfl) (fun w' hg => by have hcv := conv_at R7.out rfl c7 w' hg; go_simp; try with_reducible rfl) ?_
    try simp only [Act.put, List.setIfInBounds_toArray, List.set_cons_zero, List.set_cons_succ]
    refine rest_take (i := 15) rfl (by kernel_rfl) (by kernel_rfl) (by kernel_rfl) (by rfl) (fun w' hg => by go_simp; try with_reducible rfl) ?_
    try simp only [Act.put, List.setIfInBounds_toArray, List.set_cons_zero, List.set_cons_succ]
    refine rest_take (i := 16) rfl (by kernel_rfl) (by kernel_rfl) (by kernel_rfl) (by rfl) (fun w' hg => by go_simp; try with_reducible rfl) ?_
    try simp only [Act.put, List.setIfInBounds_toArray, List.set_cons_zero, List.set_cons_succ]
    refine rest_take (i := 17) rfl (by kernel_rfl) (by kernel_rfl) (by kernel_rfl) (by rfl) (fun w' hg => by go_simp; try with_reducible rfl) ?_
    try simp only [Act.put, List.setIfInBounds_toArray, List.set_cons_zero, List.set_cons_succ]
    refine rest_take (i := 18) rfl (by kernel_rfl) (by kernel_rfl) (by kernel_rfl) (by rfl) (fun w' hg => by go_simp; try with_reducible rfl) ?_
    try simp only [Act.put, List.setIfInBounds_toArray, List.set_cons_zero, List.set_cons_succ]
    refine rest_take (i := 19) rfl (by kernel_rfl) (by kernel_rfl) (by kernel_rfl) (by rfl) (fun w' hg => by go_simp; try with_reducible rfl) ?_
    try simp only [Act.put, List.setIfInBounds_toArray, List.set_cons_zero, List.set_cons_succ]
    refine rest_take (i := 20) rfl (by kernel_rfl) (by kernel_rfl) (by kernel_rfl) (by rfl) (fun w' hg => by have hcv := conv_at Sf.out Hr.out cf w' hg; go_simp; try with_reducible rfl) ?_
    try simp only [Act.put, List.setIfInBounds_toArray, List.set_cons_zero, List.set_cons_succ]
    refine rest_take (i := 21) rfl (by kernel_rfl) (by kernel_rfl) (by kernel_rfl) (by rfl) (fun w' hg => by go_simp; try with_reducible rfl) ?_
    try simp only [Act.put, List.setIfInBounds_toArray, List.set_cons_zero, List.set_cons_succ]
    refine rest_take (i := 22) rfl (by kernel_rfl) (by kernel_rfl) (by kernel_rfl) (by rfl) (fun w' hg => by go_simp; try with_reducible rfl) ?_
    try simp only [Act.put, List.setIfInBounds_toArray, List.set_cons_zero, List.set_cons_succ]
    refine rest_lone (i := 23) rfl (by kernel_rfl) (by rfl) (fun K hK => ?_)
    go_simp
    refine (refFill_any _ _ _ l size _ S.out Hn.out (by omega) hs).mono ?_
    rintro e v8 ⟨A8, c8, rfl, ho8, hb8⟩
    refine hK.out _ _ hb8 ?_
    replace S := Lib.hid (S.out.grow hb8)
    replace Sf := Lib.hid (Sf.out.grow hb8)
    replace Ol := Lib.hid (Ol.out.grow hb8)
    replace G := Lib.hid (Grown.trans G.out hb8)
    have R8 := Lib.hid ho8.rd
    clear hb8 ho8
    clear hK K
    try simp only [Act.put, List.setIfInBounds_toArray, List.set_cons_zero, List.set_cons_succ]
    refine rest_take (i := 24) rfl (by kernel_rfl) (by kernel_rfl) (by kernel_rfl) (by rfl) (fun w' hg => by have hcv := conv_at R8.out rfl c8 w' hg; go_simp; try with_reducible rfl) ?_
    try simp only [Act.put, List.setIfInBounds_toArray, List.set_cons_zero, List.set_cons_succ]
    refine rest_take (i := 25) rfl (by kernel_rfl) (by kernel_rfl) (by kernel_rfl) (by rfl) (fun w' hg => by go_simp; try with_reducible rfl) ?_
    try simp only [Act.put, List.setIfInBounds_toArray, List.set_cons_zero, List.set_cons_succ]
    refine rest_take (i := 26) rfl (by kernel_rfl) (by kernel_rfl) (by kernel_rfl) (by rfl) (fun w' hg => by go_simp; try with_reducible rfl) ?_
    try simp only [Act.put, List.setIfInBounds_toArray, List.set_cons_zero, List.set_cons_succ]
    refine rest_done (by kernel_rfl) ?_
    have P0 := Lib.hid (PInv.of_own Ol.out Hpos.out)
    rw [Hq.out] at P0
    clear S Sf Ol
    go_wp2_with fail
    go_loopw [8] (fun i wr => ∃ t : Nat, t ≤ q ∧ i = .int .i64 t ∧ Hid (PInv wr w2.heap.size q Al) ∧ Hid (Below w2.heap.size w2 wr)) (fun i _ => q - (intOf i).toNat)
    case atStart => exact ⟨0, by omega, rfl, P0.out, G.out⟩
    case round =>
      obtain ⟨t, ht, rfl, hP, hG⟩ := hrel
      by_cases hlt : t < q
      · obtain ⟨g, gi, ni, ci, x, rfl, hc1, hni, hBg, hc2, hfr, hput⟩ := hP.out.at_ hlt
        have Hput := Lib.hid hput
        clear hput hP
        go_wp2
        go_region
        all_goals
          clear hc1 hc2 hfr
          go_wp2
          go_roundw
          case rel => exact ⟨t + 1, by omega, by go_num, (Hput.out _).drew, (hG.out.setCell (p := ⟨gi, 0, none⟩) hBg _).drew⟩
          case measure => simp [intOf]; omega
      · have hcv1 : (convert 22 9 (.slice Ai n ci)).run Try.prog wr = .ok (.string ⟨l.toArray⟩) wr := by
          have := conv (I0.out.below hG.out) ci
          rwa [Hn.out] at this
        have hcv2 : (convert 22 9 (.slice A n c)).run Try.prog wr = .ok (.string ⟨l.toArray⟩) wr := by
          have := conv (S0.out.below hG.out) c
          rwa [Hn.out] at this
        go_wp2
        go_ret
        exact ⟨rfl, Grown.trans Hb.out hG.out⟩
  · have d0 : decide (0 < size) = false := by simpa using h0
    refine rest_take (i := 0) rfl (by kernel_rfl) (by kernel_rfl) (by kernel_rfl) (by rfl) (fun w' hg => by go_simp; try with_reducible rfl) ?_
    try simp only [Act.put, List.setIfInBounds_toArray, List.set_cons_zero, List.set_cons_succ]
    refine rest_take (i := 1) rfl (by kernel_rfl) (by kernel_rfl) (by kernel_rfl) (by rfl) (fun w' hg => by go_simp; try with_reducible rfl) ?_
    try simp only [Act.put, List.setIfInBounds_toArray, List.set_cons_zero, List.set_cons_succ]
    refine rest_take (i := 2) rfl (by kernel_rfl) (by kernel_rfl) (by kernel_rfl) (by rfl) (fun w' hg => by go_simp; try with_reducible rfl) ?_
    try simp only [Act.put, List.setIfInBounds_toArray, List.set_cons_zero, List.set_cons_succ]
    refine rest_lone (i := 3) rfl (by kernel_rfl) (by rfl) (fun K hK => ?_)
    go_simp
    refine (refCut_all _ _ _ l size _ Hn.out S.out hc (by omega) (by omega)).mono ?_
    rintro e v5 ⟨A5, c5, rfl, ho5, hb5⟩
    rw [Hq.out]
    refine hK.out _ _ hb5 ?_
    replace S := Lib.hid (S.out.grow hb5)
    replace Sf := Lib.hid (Sf.out.grow hb5)
    replace Ol := Lib.hid (Ol.out.grow hb5)
    replace G := Lib.hid (Grown.trans G.out hb5)
    have R5 := Lib.hid ho5.rd
    clear hb5 ho5
    clear hK K
    try simp only [Act.put, List.setIfInBounds_toArray, List.set_cons_zero, List.set_cons_succ]
    refine rest_lone (i := 4) rfl (by kernel_rfl) (by rfl) (fun K hK => ?_)
    go_simp
    refine (pieces_same _ _ _ _ _ _ (cutL size.toNat l) _ Ol.out.rd R5.out Hq.out Hq.out (by have := Hq.out; omega)).mono ?_
    rintro e v6 ⟨rfl, hb6⟩
    refine hK.out _ _ hb6 ?_
    replace S := Lib.hid (S.out.grow hb6)
    replace Sf := Lib.hid (Sf.out.grow hb6)
    replace Ol := Lib.hid (Ol.out.grow hb6)
    replace G := Lib.hid (Grown.trans G.out hb6)
    clear hb6 R5
    clear hK K
    try simp only [Act.put, List.setIfInBounds_toArray, List.set_cons_zero, List.set_cons_succ]
    refine rest_take (i := 5) rfl (by kernel_rfl) (by kernel_rfl) (by kernel_rfl) (by rfl) (fun w' hg => by go_simp; try with_reducible rfl) ?_
    try simp only [Act.put, List.setIfInBounds_toArray, List.set_cons_zero, List.set_cons_succ]
    refine rest_take (i := 6) rfl (by kernel_rfl) (by kernel_rfl) (by kernel_rfl) (by rfl) (fun w' hg => by go_simp; try with_reducible rfl) ?_
    try simp only [Act.put, List.setIfInBounds_toArray, List.set_cons_zero, List.set_cons_succ]
    refine rest_take (i := 7) rfl (by kernel_rfl) (by kernel_rfl) (by kernel_rfl) (by rfl) (fun w' hg => by go_simp; try with_reducible rfl) ?_
    try simp only [Act.put, List.setIfInBounds_toArray, List.set_cons_zero, List.set_cons_succ]
    refine rest_take (i := 8) rfl (by kernel_rfl) (by kernel_rfl) (by kernel_rfl) (by rfl) (fun w' hg => by go_simp; try with_reducible rfl) ?_
    try simp only [Act.put, List.setIfInBounds_toArray, List.set_cons_zero, List.set_cons_succ]
    refine rest_take (i := 9) rfl (by kernel_rfl) (by kernel_rfl) (by kernel_rfl) (by rfl) (fun w' hg => by go_simp; try with_reducible rfl) ?_
    try simp only [Act.put, List.setIfInBounds_toArray, List.set_cons_zero, List.set_cons_succ]
    refine rest_pass (i := 10) rfl (by kernel_rfl) (by kernel_rfl) (by kernel_rfl) (by rfl) ?_
    try simp only [Act.put, List.setIfInBounds_toArray, List.set_cons_zero, List.set_cons_succ]
    refine rest_pass (i := 11) rfl (by kernel_rfl) (by kernel_rfl) (by kernel_rfl) (by rfl) ?_
    try simp only [Act.put, List.setIfInBounds_toArray, List.set_cons_zero, List.set_cons_succ]
    refine rest_pass (i := 12) rfl (by kernel_rfl) (by kernel_rfl) (by kernel_rfl) (by rfl) ?_
    try simp only [Act.put, List.setIfInBounds_toArray, List.set_cons_zero, List.set_cons_succ]
    refine rest_pass (i := 13) rfl (by kernel_rfl) (by kernel_rfl) (by kernel_rfl) (by rfl) ?_
    try simp only [Act.put, List.setIfInBounds_toArray, List.set_cons_zero, List.set_cons_succ]
    refine rest_pass (i := 14) rfl (by kernel_rfl) (by kernel_rfl) (by kernel_rfl) (by rfl) ?_
    try simp only [Act.put, List.setIfInBounds_toArray, List.set_cons_zero, List.set_cons_succ]
    refine rest_pass (i := 15) rfl (by kernel_rfl) (by kernel_rfl) (by kernel_rfl) (by rfl) ?_
    try simp only [Act.put, List.setIfInBounds_toArray, List.set_cons_zero, List.set_cons_succ]
    refine rest_take (i := 16) rfl (by kernel_rfl) (by kernel_rfl) (by kernel_rfl) (by rfl) (fun w' hg => by go_simp; try with_reducible rfl) ?_
    try simp only [Act.put, List.setIfInBounds_toArray, List.set_cons_zero, List.set_cons_succ]
    refine rest_take (i := 17) rfl (by kernel_rfl) (by kernel_rfl) (by kernel_rfl) (by rfl) (fun w' hg => by go_simp; try with_reducible rfl) ?_
    try simp only [Act.put, List.setIfInBounds_toArray, List.set_cons_zero, List.set_cons_succ]
    refine rest_take (i := 18) rfl (by kernel_rfl) (by kernel_rfl) (by kernel_rfl) (by rfl) (fun w' hg => by go_simp; try with_reducible rfl) ?_
    try simp only [Act.put, List.setIfInBounds_toArray, List.set_cons_zero, List.set_cons_succ]
    refine rest_take (i := 19) rfl (by kernel_rfl) (by kernel_rfl) (by kernel_rfl) (by rfl) (fun w' hg => by go_simp; try with_reducible rfl) ?_
    try simp only [Act.put, List.setIfInBounds_toArray, List.set_cons_zero, List.set_cons_succ]
    refine rest_take (i := 20) rfl (by kernel_rfl) (by kernel_rfl) (by kernel_rfl) (by rfl) (fun w' hg => by have hcv := conv_at Sf.out Hr.out cf w' hg; go_simp; try with_reducible rfl) ?_
    try simp only [Act.put, List.setIfInBounds_toArray, List.set_cons_zero, List.set_cons_succ]
    refine rest_take (i := 21) rfl (by kernel_rfl) (by kernel_rfl) (by kernel_rfl) (by rfl) (fun w' hg => by go_simp; try with_reducible rfl) ?_
    try simp only [Act.put, List.setIfInBounds_toArray, List.set_cons_zero, List.set_cons_succ]
    refine rest_take (i := 22) rfl (by kernel_rfl) (by kernel_rfl) (by kernel_rfl) (by rfl) (fun w' hg => by go_simp; try with_reducible rfl) ?_
    try simp only [Act.put, List.setIfInBounds_toArray, List.set_cons_zero, List.set_cons_succ]
    refine rest_lone (i := 23) rfl (by kernel_rfl) (by rfl) (fun K hK => ?_)
    go_simp
    refine (refFill_any _ _ _ l size _ S.out Hn.out (by omega) hs).mono ?_
    rintro e v8 ⟨A8, c8, rfl, ho8, hb8⟩
    refine hK.out _ _ hb8 ?_
    replace S := Lib.hid (S.out.grow hb8)
    replace Sf := Lib.hid (Sf.out.grow hb8)
    replace Ol := Lib.hid (Ol.out.grow hb8)
    replace G := Lib.hid (Grown.trans G.out hb8)
    have R8 := Lib.hid ho8.rd
    clear hb8 ho8
    clear hK K
    try simp only [Act.put, List.setIfInBounds_toArray, List.set_cons_zero, List.set_cons_succ]
    refine rest_take (i := 24) rfl (by kernel_rfl) (by kernel_rfl) (by kernel_rfl) (by rfl) (fun w' hg => by have hcv := conv_at R8.out rfl c8 w' hg; go_simp; try with_reducible rfl) ?_
    try simp only [Act.put, List.setIfInBounds_toArray, List.set_cons_zero, List.set_cons_succ]
    refine rest_take (i := 25) rfl (by kernel_rfl) (by kernel_rfl) (by kernel_rfl) (by rfl) (fun w' hg => by go_simp; try with_reducible rfl) ?_
    try simp only [Act.put, List.setIfInBounds_toArray, List.set_cons_zero, List.set_cons_succ]
    refine rest_take (i := 26) rfl (by kernel_rfl) (by kernel_rfl) (by kernel_rfl) (by rfl) (fun w' hg => by go_simp; try with_reducible rfl) ?_
    try simp only [Act.put, List.setIfInBounds_toArray, List.set_cons_zero, List.set_cons_succ]
    refine rest_done (by kernel_rfl) ?_
    have P0 := Lib.hid (PInv.of_own Ol.out Hpos.out)
    rw [Hq.out] at P0
    clear S Sf Ol
    go_wp2_with fail
    go_loopw [8] (fun i wr => ∃ t : Nat, t ≤ q ∧ i = .int .i64 t ∧ Hid (PInv wr w2.heap.size q Al) ∧ Hid (Below w2.heap.size w2 wr)) (fun i _ => q - (intOf i).toNat)
    case atStart => exact ⟨0, by omega, rfl, P0.out, G.out⟩
    case round =>
      obtain ⟨t, ht, rfl, hP, hG⟩ := hrel
      by_cases hlt : t < q
      · obtain ⟨g, gi, ni, ci, x, rfl, hc1, hni, hBg, hc2, hfr, hput⟩ := hP.out.at_ hlt
        have Hput := Lib.hid hput
        clear hput hP
        go_wp2
        go_region
        all_goals
          clear hc1 hc2 hfr
          go_wp2
          go_roundw
          case rel => exact ⟨t + 1, by omega, by go_num, (Hput.out _).drew, (hG.out.setCell (p := ⟨gi, 0, none⟩) hBg _).drew⟩
          case measure => simp [intOf]; omega
      · have hcv1 : (convert 22 9 (.slice Ai n ci)).run Try.prog wr = .ok (.string ⟨l.toArray⟩) wr := by
          have := conv (I0.out.below hG.out) ci
          rwa [Hn.out] at this
        have hcv2 : (convert 22 9 (.slice A n c)).run Try.prog wr = .ok (.string ⟨l.toArray⟩) wr := by
          have := conv (S0.out.below hG.out) c
          rwa [Hn.out] at this
        go_wp2
        go_ret
        exact ⟨rfl, Grown.trans Hb.out hG.out⟩

set_option maxHeartbeats 1000000 in
theorem cuts_great (A : Option Addr) (n c : Nat) (size : Int) (w : World) (hm : n ≤ 9223372036854775807) (h : 500 < n ∨ (n ≤ 500 ∧ 2000 < size)) :
    Calls Try.prog 5 #[.slice A n c, .int .i64 size] w (Says w true) := by
  rcases h with h | ⟨h, h'⟩
  all_goals
    go_enter Try.func5, Try.ntmps5
    go_wp2_with fail
    refine (awake_any _).mono ?_
    rintro e w1 ⟨rfl, hb1⟩
    have Hb1 := Lib.hid hb1
    clear hb1
    go_wp2_with fail
    refine (awake_any _).mono ?_
    rintro e w2 ⟨rfl, hb2⟩
    have Hb2 := Lib.hid hb2
    clear hb2
    go_wp2
    go_ret
    exact ⟨rfl, Grown.trans Hb1.out Hb2.out⟩

theorem cuts_walk (A : Option Addr) (n c : Nat) (l : List UInt8) (size : Int) (w : World) (h : Rd w w.heap.size A l) (hn : l.length = n) (hc : n ≤ c) (hm : n ≤ maxLen) :
    Calls Try.prog 5 #[.slice A n c, .int .i64 size] w (Says w true) := by
  unfold maxLen at hm
  by_cases h1 : n ≤ 500
  · by_cases h2 : size ≤ 2000
    · exact cuts_small A n c l size w h hn hc h1 h2
    · exact cuts_great A n c size w (by omega) (.inr ⟨h1, by omega⟩)
  · exact cuts_great A n c size w (by omega) (.inl (by omega))

end Go.Proofs.Ytmcdidmfgjmhiaa
