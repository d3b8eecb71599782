/-
  The program's Function.
-/
import Derived.Test.YtanalbdbkfmifaaTqF
namespace Go.Proofs.Ytanalbdbkfmifaa.S11
open Go.RowKit
set_option linter.unusedVariables false
set_option linter.unusedSimpArgs false

section
variable {w : World} {G : Nat} {L : Lay} {A : Option Addr} {n c : Nat} {st : St} {fa : MA} {fg : MG} {ff fb : MS}
set_option maxHeartbeats 4000000 in
theorem fn_any (h : Lr w G L A n c st.seed st.bad (st.cnt : Int) fa fg ff fb) (ht : Tab4 st fa fg ff fb) (hfew : Few st) (name q : List UInt8) (m : Int) (hnl : name.length ≤ 1000) (hql : q.length ≤ 1000) (hm : m ≤ 1000) :
    Calls Try.prog 9 #[.pointer (some ⟨G, 0, none⟩), .string ⟨name.toArray⟩, .string ⟨q.toArray⟩, .int .i64 m] w (OutL w G L (fnOp st name q m).1 (fnOp st name q m).2) := by
  have H0 := Lib.hid h
  have HT := Lib.hid ht
  have HFew := Lib.hid hfew
  have c1 : w.cell? ⟨G, 1, none⟩ = some (.map (some L.a)) := cell_of_row w G 1 _ _ (0, 0) h.hG
  clear h ht hfew
  cases hfa : fa (name, q) with
  | some y =>
    have HF := Lib.hid (show fnOp st name q m = (y, st) by
      have h1 := HT.out.a name q
      rw [hfa] at h1
      unfold fnOp
      cases hf : st.fs.find? (hitF name q) with
      | none => rw [hf] at h1; cases h1
      | some t => rw [hf] at h1; simp only [Option.map_some, Option.some.injEq] at h1; rw [h1])
    have hlk := lookA H0.out.ma name q (y := y) (ok := true) (by rw [hfa]; rfl) (by rw [hfa]; rfl)
    obtain ⟨cb, w6, hcv, hcb, hbq, hg6⟩ := conv_bq (w.alloc (.cells #[.string ⟨y.toArray⟩] 55)) y
    obtain ⟨gb, hgb⟩ : ∃ gb, gb = (w.alloc (.cells #[.string ⟨y.toArray⟩] 55)).heap.size := ⟨_, rfl⟩
    rw [← hgb] at hcv hbq
    have HGB := Lib.hid hgb
    have HBQ := Lib.hid hbq
    have HG6 := Lib.hid (show Grown w w6 from (alloc_below w (.cells #[.string ⟨y.toArray⟩] 55)).trans (Below.mono hg6 (alloc_below w (.cells #[.string ⟨y.toArray⟩] 55)).size))
    obtain ⟨ly, hly⟩ : ∃ ly, ly = y.length := ⟨_, rfl⟩
    rw [← hly] at hcv hcb
    have HLY := Lib.hid hly
    clear hgb hbq hg6 hly hfa
    go_enter Try.func9, Try.ntmps9
    go_wp2
    go_ret
    rw [HF.out]
    exact ⟨some ⟨gb, 0, none⟩, ly, cb, rfl, HLY.out.symm, hcb, HBQ.out.rd, (fun x hx _ => by simp only [Option.some.injEq] at hx; subst hx; show w.heap.size ≤ gb; rw [HGB.out]; exact (alloc_below w _).size), ⟨A, n, c, fa, fg, ff, fb, H0.out.grow HG6.out, HT.out⟩, Ch.grown HG6.out⟩
  | none =>
    have HF := Lib.hid (show fnOp st name q m = (drawO st.seed m.toNat, fnNew st name q (drawO st.seed m.toNat) m.toNat) by
      have h1 := HT.out.a name q
      rw [hfa] at h1
      unfold fnOp
      cases hf : st.fs.find? (hitF name q) with
      | none => rfl
      | some t => rw [hf] at h1; cases h1)
    have hlk := lookA H0.out.ma name q (y := []) (ok := false) (by rw [hfa]; rfl) (by rw [hfa]; rfl)
    have HFA := Lib.hid hfa
    clear hfa
    go_enter Try.func9, Try.ntmps9
    go_wp2_with fail
    refine (clone_any name _ hnl).mono ?_
    rintro e wa ⟨rfl, hga⟩
    have HGa := Lib.hid (show Grown w wa from (alloc_below w (.cells #[.string ⟨#[]⟩] 55)).trans (Below.mono hga (alloc_below w (.cells #[.string ⟨#[]⟩] 55)).size))
    clear hga hlk c1
    go_wp2_with fail
    refine (clone_any q wa hql).mono ?_
    rintro e wb ⟨rfl, hgb⟩
    have HGb := Lib.hid (HGa.out.trans hgb)
    have X0 := Lib.hid (H0.out.grow HGb.out)
    have c6 : wb.cell? ⟨G, 6, none⟩ = some (.int .i64 (st.cnt : Int)) := cell_of_row wb G 6 _ _ (0, 0) X0.out.hG
    have f6 : wb.frozen? ⟨G, 6, none⟩ = false := frozen_of_row wb G 6 _ _ X0.out.hG
    obtain ⟨k, hk⟩ : ∃ k, k = st.cnt := ⟨_, rfl⟩
    have HK := Lib.hid hk
    rw [← hk] at c6
    have hk4 : k ≤ 400 := by rw [hk]; exact HFew.out.2.2
    have X1 := Lib.hid (X0.out.setCnt ((k : Int) + 1))
    have C1 := Lib.hid (Ch.setCell (Ch.grown (F := FF G L) HGb.out) (p := ⟨G, 6, none⟩) (.inl (.inl rfl)) (.int .i64 ((k : Int) + 1)))
    clear hgb hk
    go_wp2_with fail
    clear c6 f6
    refine (draw_raw X1.out m hm).mono ?_
    rintro e wc ⟨B, nb, cb, A2, n2, c2, rfl, hYl, hnc, hYr, hYn, hx2, hc2⟩
    obtain ⟨Y, hY⟩ : ∃ Y, Y = drawO st.seed m.toNat := ⟨_, rfl⟩
    have HY := Lib.hid hY
    rw [← hY] at hYl hYr
    have hcv := conv hYr cb
    rw [hYl] at hcv
    have X2 := Lib.hid hx2
    have C2 := Lib.hid (Ch.then C1.out hc2 (fun k hk e => .inl e))
    have X3 := Lib.hid (hx2.grow (alloc_below wc (.cells #[.string ⟨name.toArray⟩, .string ⟨Y.toArray⟩] 58)))
    have C3 := Lib.hid (Ch.alloc C2.out (.cells #[.string ⟨name.toArray⟩, .string ⟨Y.toArray⟩] 58))
    have D3 := Lib.hid (heap_alloc_new wc (.cells #[.string ⟨name.toArray⟩, .string ⟨Y.toArray⟩] 58))
    clear hY hx2 hc2 hYr hYn X1 C1 X0
    go_wp2_with fail
    obtain ⟨D, hD⟩ : ∃ D, D = wc.heap.size := ⟨_, rfl⟩
    rw [← hD] at D3 ⊢
    have HD := Lib.hid (show w.heap.size ≤ D by rw [hD]; exact C2.out.size)
    clear hD hcv X2 C2
    generalize wc.alloc _ = wd at X3 C3 D3 ⊢
    generalize hwe : wd.drew = we
    have X4 := Lib.hid (show Lr we G L A2 n2 c2 (st.seed.drop m.toNat) st.bad ((k : Int) + 1) fa fg ff fb by rw [← hwe]; exact X3.out.grow ((Below.refl _ wd).drew))
    have C4 := Lib.hid (show Ch (FF G L) w we by rw [← hwe]; exact Ch.drew C3.out)
    have D4 := Lib.hid (show we.heap[D]? = some (.cells #[.string ⟨name.toArray⟩, .string ⟨Y.toArray⟩] 58 (0, 0)) by rw [← hwe]; exact D3.out)
    obtain ⟨ok, hok⟩ : ∃ ok, (fg (name, Y)).isSome = ok := ⟨_, rfl⟩
    have HOK := Lib.hid hok
    have SX := Lib.hid (show ∀ v : World, Grown we v → v.cell? ⟨G, 2, none⟩ = some (.map (some L.g)) ∧ v.cell? ⟨D, 0, none⟩ = some (.string ⟨name.toArray⟩) ∧ v.cell? ⟨D, 1, none⟩ = some (.string ⟨Y.toArray⟩) ∧ (Instr.lookup 49 (.map (some L.g)) (.agg #[.string ⟨name.toArray⟩, .string ⟨Y.toArray⟩]) true).run Try.prog v = .ok (.tuple #[.agg #[], .bool ok]) v from fun v hv => by
      have hx := X4.out.grow hv
      obtain ⟨d0, d1, _, _⟩ := row_cells ((hv.block D (lt_of_heap D4.out)).trans D4.out)
      exact ⟨cell_of_row v G 2 _ _ (0, 0) hx.hG, d0, d1, lookG hx.mg name Y hok⟩)
    have S0 := Lib.hid (SX.out we (Grown.refl _))
    clear hok X3 C3 D3
    refine restS_begin (fun v : World => v.cell? ⟨G, 2, none⟩ = some (.map (some L.g)) ∧ v.cell? ⟨D, 0, none⟩ = some (.string ⟨name.toArray⟩) ∧ v.cell? ⟨D, 1, none⟩ = some (.string ⟨Y.toArray⟩) ∧ (Instr.lookup 49 (.map (some L.g)) (.agg #[.string ⟨name.toArray⟩, .string ⟨Y.toArray⟩]) true).run Try.prog v = .ok (.tuple #[.agg #[], .bool ok]) v) (by kernel_rfl) ?_
    rw [hwe]
    clear hwe
    refine restS_take (i := 0) S0.out rfl (by kernel_rfl) (by kernel_rfl) (by kernel_rfl) (by rfl) (fun v hv => by obtain ⟨s0, s1, s2, s3⟩ := hv; go_simp; try with_reducible rfl) ?_
    try simp only [Act.put, List.setIfInBounds_toArray, List.set_cons_zero, List.set_cons_succ]
    refine restS_take (i := 1) S0.out rfl (by kernel_rfl) (by kernel_rfl) (by kernel_rfl) (by rfl) (fun v hv => by obtain ⟨s0, s1, s2, s3⟩ := hv; go_simp; try with_reducible rfl) ?_
    try simp only [Act.put, List.setIfInBounds_toArray, List.set_cons_zero, List.set_cons_succ]
    refine restS_take (i := 2) S0.out rfl (by kernel_rfl) (by kernel_rfl) (by kernel_rfl) (by rfl) (fun v hv => by obtain ⟨s0, s1, s2, s3⟩ := hv; go_simp; try with_reducible rfl) ?_
    try simp only [Act.put, List.setIfInBounds_toArray, List.set_cons_zero, List.set_cons_succ]
    refine restS_take (i := 3) S0.out rfl (by kernel_rfl) (by kernel_rfl) (by kernel_rfl) (by rfl) (fun v hv => by obtain ⟨s0, s1, s2, s3⟩ := hv; go_simp; try with_reducible rfl) ?_
    try simp only [Act.put, List.setIfInBounds_toArray, List.set_cons_zero, List.set_cons_succ]
    refine restS_take (i := 4) S0.out rfl (by kernel_rfl) (by kernel_rfl) (by kernel_rfl) (by rfl) (fun v hv => by obtain ⟨s0, s1, s2, s3⟩ := hv; go_simp; try with_reducible rfl) ?_
    try simp only [Act.put, List.setIfInBounds_toArray, List.set_cons_zero, List.set_cons_succ]
    refine restS_take (i := 5) S0.out rfl (by kernel_rfl) (by kernel_rfl) (by kernel_rfl) (by rfl) (fun v hv => by obtain ⟨s0, s1, s2, s3⟩ := hv; go_simp; try with_reducible rfl) ?_
    try simp only [Act.put, List.setIfInBounds_toArray, List.set_cons_zero, List.set_cons_succ]
    refine restS_take (i := 6) S0.out rfl (by kernel_rfl) (by kernel_rfl) (by kernel_rfl) (by rfl) (fun v hv => by obtain ⟨s0, s1, s2, s3⟩ := hv; go_simp; try with_reducible rfl) ?_
    try simp only [Act.put, List.setIfInBounds_toArray, List.set_cons_zero, List.set_cons_succ]
    refine restS_take (i := 7) S0.out rfl (by kernel_rfl) (by kernel_rfl) (by kernel_rfl) (by rfl) (fun v hv => by obtain ⟨s0, s1, s2, s3⟩ := hv; go_simp; try with_reducible rfl) ?_
    try simp only [Act.put, List.setIfInBounds_toArray, List.set_cons_zero, List.set_cons_succ]
    refine restS_take (i := 8) S0.out rfl (by kernel_rfl) (by kernel_rfl) (by kernel_rfl) (by rfl) (fun v hv => by obtain ⟨s0, s1, s2, s3⟩ := hv; go_simp; try with_reducible rfl) ?_
    try simp only [Act.put, List.setIfInBounds_toArray, List.set_cons_zero, List.set_cons_succ]
    refine restS_lone (i := 9) rfl (by kernel_rfl) (by rfl) (fun K hK => ?_)
    go_simp
    have GE := Lib.hid (alloc_below we (.cells #[] 60))
    have NE := Lib.hid (heap_alloc_new we (.cells #[] 60))
    have SE := Lib.hid (SX.out _ GE.out)
    obtain ⟨ge, hge⟩ : ∃ ge, ge = we.heap.size := ⟨_, rfl⟩
    rw [← hge] at NE ⊢
    clear hge
    generalize we.alloc _ = wf at GE NE SE ⊢
    refine hK.out _ _ SE.out ?_
    clear hK K
    try simp only [Act.put, List.setIfInBounds_toArray, List.set_cons_zero, List.set_cons_succ]
    have X5 := Lib.hid (X4.out.grow GE.out)
    have C5 := Lib.hid (Ch.trans C4.out (Ch.grown GE.out))
    have D5 := Lib.hid ((GE.out.block D (lt_of_heap D4.out)).trans D4.out)
    clear X4 C4 D4 S0 SX GE
    refine restS_lone (i := 10) rfl (by kernel_rfl) (by rfl) (fun K hK => ?_)
    go_simp
    refine hK.out _ _ SE.out ?_
    clear hK K
    try simp only [Act.put, List.setIfInBounds_toArray, List.set_cons_zero, List.set_cons_succ]
    refine restS_take (i := 11) SE.out rfl (by kernel_rfl) (by kernel_rfl) (by kernel_rfl) (by rfl) (fun v hv => by obtain ⟨s0, s1, s2, s3⟩ := hv; go_simp; try with_reducible rfl) ?_
    try simp only [Act.put, List.setIfInBounds_toArray, List.set_cons_zero, List.set_cons_succ]
    refine restS_done (by kernel_rfl) ?_
    clear SE NE
    have HANY := Lib.hid (show st.fs.any (badF name Y) = ok by rw [← HT.out.g]; exact HOK.out)
    cases ok
    case' true =>
      have f5 : wf.frozen? ⟨G, 5, none⟩ = false := frozen_of_row wf G 5 _ _ X5.out.hG
      have c5 : wf.cell? ⟨G, 5, none⟩ = some (.bool st.bad) := cell_of_row wf G 5 _ _ (0, 0) X5.out.hG
      go_wp2_with fail
      obtain ⟨bb, HBB, X6⟩ : ∃ bb, Hid (bb = (st.bad || st.fs.any (badF name Y))) ∧ Hid (Lr (wf.setCell ⟨G, 5, none⟩ (.bool true)) G L A2 n2 c2 (st.seed.drop m.toNat) bb ((k : Int) + 1) fa fg ff fb) := ⟨true, (by show true = _; rw [HANY.out]; simp), X5.out.setBad true⟩
      have C6 := Lib.hid (Ch.setCell C5.out (p := ⟨G, 5, none⟩) (.inl (.inl rfl)) (.bool true))
      have D6 := Lib.hid (show (wf.setCell ⟨G, 5, none⟩ (.bool true)).heap[D]? = some (.cells #[.string ⟨name.toArray⟩, .string ⟨Y.toArray⟩] 58 (0, 0)) from (heap_setCell_other wf ⟨G, 5, none⟩ D _ (fun e => by have := lt_of_heap H0.out.hG; have := HD.out; simp only at e; omega)).trans D5.out)
      clear c5 f5 X5 C5 D5 HANY
      generalize wf.setCell _ _ = wg at X6 C6 D6 ⊢
    case' false =>
      go_wp2_with fail
      obtain ⟨bb, HBB, X6⟩ : ∃ bb, Hid (bb = (st.bad || st.fs.any (badF name Y))) ∧ Hid (Lr wf G L A2 n2 c2 (st.seed.drop m.toNat) bb ((k : Int) + 1) fa fg ff fb) := ⟨st.bad, (by show _ = _; rw [HANY.out]; simp), X5.out⟩
      have C6 := Lib.hid C5.out
      have D6 := Lib.hid D5.out
      clear X5 C5 D5 HANY
      generalize wf = wg at X6 C6 D6 ⊢
    all_goals
      generalize hwh : wg.drew = wh
      have X7 := Lib.hid (show Lr wh G L A2 n2 c2 (st.seed.drop m.toNat) bb ((k : Int) + 1) fa fg ff fb by rw [← hwh]; exact X6.out.grow ((Below.refl _ wg).drew))
      have C7 := Lib.hid (show Ch (FF G L) w wh by rw [← hwh]; exact Ch.drew C6.out)
      have D7 := Lib.hid (show wh.heap[D]? = some (.cells #[.string ⟨name.toArray⟩, .string ⟨Y.toArray⟩] 58 (0, 0)) by rw [← hwh]; exact D6.out)
      have SX := Lib.hid (show ∀ v : World, v.heap[G]? = wh.heap[G]? → v.heap[D]? = wh.heap[D]? → v.cell? ⟨G, 2, none⟩ = some (.map (some L.g)) ∧ v.cell? ⟨G, 1, none⟩ = some (.map (some L.a)) ∧ v.cell? ⟨D, 0, none⟩ = some (.string ⟨name.toArray⟩) ∧ v.cell? ⟨D, 1, none⟩ = some (.string ⟨Y.toArray⟩) from fun v hv hd => by
        obtain ⟨d0, d1, _, _⟩ := row_cells (hd.trans D7.out)
        exact ⟨cell_of_row v G 2 _ _ (0, 0) (hv.trans X7.out.hG), cell_of_row v G 1 _ _ (0, 0) (hv.trans X7.out.hG), d0, d1⟩)
      have S0 := Lib.hid (SX.out wh rfl rfl)
      clear X6 C6 D6
      refine restS_begin (fun v : World => v.cell? ⟨G, 2, none⟩ = some (.map (some L.g)) ∧ v.cell? ⟨G, 1, none⟩ = some (.map (some L.a)) ∧ v.cell? ⟨D, 0, none⟩ = some (.string ⟨name.toArray⟩) ∧ v.cell? ⟨D, 1, none⟩ = some (.string ⟨Y.toArray⟩)) (by kernel_rfl) ?_
      rw [hwh]
      clear hwh
      refine restS_take (i := 0) S0.out rfl (by kernel_rfl) (by kernel_rfl) (by kernel_rfl) (by rfl) (fun v hv => by obtain ⟨s0, s1, s2, s3⟩ := hv; go_simp; try with_reducible rfl) ?_
      try simp only [Act.put, List.setIfInBounds_toArray, List.set_cons_zero, List.set_cons_succ]
      refine restS_take (i := 1) S0.out rfl (by kernel_rfl) (by kernel_rfl) (by kernel_rfl) (by rfl) (fun v hv => by obtain ⟨s0, s1, s2, s3⟩ := hv; go_simp; try with_reducible rfl) ?_
      try simp only [Act.put, List.setIfInBounds_toArray, List.set_cons_zero, List.set_cons_succ]
      refine restS_take (i := 2) S0.out rfl (by kernel_rfl) (by kernel_rfl) (by kernel_rfl) (by rfl) (fun v hv => by obtain ⟨s0, s1, s2, s3⟩ := hv; go_simp; try with_reducible rfl) ?_
      try simp only [Act.put, List.setIfInBounds_toArray, List.set_cons_zero, List.set_cons_succ]
      refine restS_take (i := 3) S0.out rfl (by kernel_rfl) (by kernel_rfl) (by kernel_rfl) (by rfl) (fun v hv => by obtain ⟨s0, s1, s2, s3⟩ := hv; go_simp; try with_reducible rfl) ?_
      try simp only [Act.put, List.setIfInBounds_toArray, List.set_cons_zero, List.set_cons_succ]
      refine restS_take (i := 4) S0.out rfl (by kernel_rfl) (by kernel_rfl) (by kernel_rfl) (by rfl) (fun v hv => by obtain ⟨s0, s1, s2, s3⟩ := hv; go_simp; try with_reducible rfl) ?_
      try simp only [Act.put, List.setIfInBounds_toArray, List.set_cons_zero, List.set_cons_succ]
      refine restS_take (i := 5) S0.out rfl (by kernel_rfl) (by kernel_rfl) (by kernel_rfl) (by rfl) (fun v hv => by obtain ⟨s0, s1, s2, s3⟩ := hv; go_simp; try with_reducible rfl) ?_
      try simp only [Act.put, List.setIfInBounds_toArray, List.set_cons_zero, List.set_cons_succ]
      refine restS_lone (i := 6) rfl (by kernel_rfl) (by rfl) (fun K hK => ?_)
      refine Mp.wp_upd (.tmp 62) (.tmp 63) (.tmp 64) rfl keys_entry Try.underlying49 X7.out.mg (name, Y) () rfl rfl rfl ?_
      intro wi hmi hgi hsi
      have hGi : wi.heap[G]? = wh.heap[G]? := by_block hgi G (lt_of_heap X7.out.hG) (fun e => X7.out.mg.cells X7.out.hG e.symm)
      have hDi : wi.heap[D]? = wh.heap[D]? := by_block hgi D (lt_of_heap D7.out) (fun e => X7.out.mg.cells D7.out e.symm)
      have X8 := Lib.hid (X7.out.putG hmi hgi)
      have C8 := Lib.hid (Ch.trans C7.out (Ch.by_ (F := FF G L) hgi (.inr (.inr (.inl rfl)))))
      have D8 := Lib.hid (hDi.trans D7.out)
      refine hK.out _ _ (SX.out _ hGi hDi) ?_
      clear hK K hmi hgi hsi hGi hDi SX S0 X7 C7 D7
      try simp only [Act.put, List.setIfInBounds_toArray, List.set_cons_zero, List.set_cons_succ]
      refine restS_done (by kernel_rfl) ?_
      go_wp2_with fail
      generalize hwj : wi.drew = wj
      have X9 := Lib.hid (show Lr wj G L A2 n2 c2 (st.seed.drop m.toNat) bb ((k : Int) + 1) fa (Mp.put fg (name, Y) ()) ff fb by rw [← hwj]; exact X8.out.grow ((Below.refl _ wi).drew))
      have C9 := Lib.hid (show Ch (FF G L) w wj by rw [← hwj]; exact Ch.drew C8.out)
      have D9 := Lib.hid (show wj.heap[D]? = some (.cells #[.string ⟨name.toArray⟩, .string ⟨Y.toArray⟩] 58 (0, 0)) by rw [← hwj]; exact D8.out)
      have SX := Lib.hid (show ∀ v : World, v.heap[G]? = wj.heap[G]? → v.heap[D]? = wj.heap[D]? → v.cell? ⟨G, 1, none⟩ = some (.map (some L.a)) ∧ v.cell? ⟨D, 1, none⟩ = some (.string ⟨Y.toArray⟩) from fun v hv hd => by
        obtain ⟨d0, d1, _, _⟩ := row_cells (hd.trans D9.out)
        exact ⟨cell_of_row v G 1 _ _ (0, 0) (hv.trans X9.out.hG), d1⟩)
      have S0 := Lib.hid (SX.out wj rfl rfl)
      clear X8 C8 D8
      refine restS_begin (fun v : World => v.cell? ⟨G, 1, none⟩ = some (.map (some L.a)) ∧ v.cell? ⟨D, 1, none⟩ = some (.string ⟨Y.toArray⟩)) (by kernel_rfl) ?_
      rw [hwj]
      clear hwj
      refine restS_take (i := 0) S0.out rfl (by kernel_rfl) (by kernel_rfl) (by kernel_rfl) (by rfl) (fun v hv => by obtain ⟨s0, s1⟩ := hv; go_simp; try with_reducible rfl) ?_
      try simp only [Act.put, List.setIfInBounds_toArray, List.set_cons_zero, List.set_cons_succ]
      refine restS_take (i := 1) S0.out rfl (by kernel_rfl) (by kernel_rfl) (by kernel_rfl) (by rfl) (fun v hv => by obtain ⟨s0, s1⟩ := hv; go_simp; try with_reducible rfl) ?_
      try simp only [Act.put, List.setIfInBounds_toArray, List.set_cons_zero, List.set_cons_succ]
      refine restS_take (i := 2) S0.out rfl (by kernel_rfl) (by kernel_rfl) (by kernel_rfl) (by rfl) (fun v hv => by obtain ⟨s0, s1⟩ := hv; go_simp; try with_reducible rfl) ?_
      try simp only [Act.put, List.setIfInBounds_toArray, List.set_cons_zero, List.set_cons_succ]
      refine restS_take (i := 3) S0.out rfl (by kernel_rfl) (by kernel_rfl) (by kernel_rfl) (by rfl) (fun v hv => by obtain ⟨s0, s1⟩ := hv; go_simp; try with_reducible rfl) ?_
      try simp only [Act.put, List.setIfInBounds_toArray, List.set_cons_zero, List.set_cons_succ]
      refine restS_take (i := 4) S0.out rfl (by kernel_rfl) (by kernel_rfl) (by kernel_rfl) (by rfl) (fun v hv => by obtain ⟨s0, s1⟩ := hv; go_simp; try with_reducible rfl) ?_
      try simp only [Act.put, List.setIfInBounds_toArray, List.set_cons_zero, List.set_cons_succ]
      refine restS_take (i := 5) S0.out rfl (by kernel_rfl) (by kernel_rfl) (by kernel_rfl) (by rfl) (fun v hv => by obtain ⟨s0, s1⟩ := hv; go_simp; try with_reducible rfl) ?_
      try simp only [Act.put, List.setIfInBounds_toArray, List.set_cons_zero, List.set_cons_succ]
      refine restS_take (i := 6) S0.out rfl (by kernel_rfl) (by kernel_rfl) (by kernel_rfl) (by rfl) (fun v hv => by obtain ⟨s0, s1⟩ := hv; go_simp; try with_reducible rfl) ?_
      try simp only [Act.put, List.setIfInBounds_toArray, List.set_cons_zero, List.set_cons_succ]
      refine restS_take (i := 7) S0.out rfl (by kernel_rfl) (by kernel_rfl) (by kernel_rfl) (by rfl) (fun v hv => by obtain ⟨s0, s1⟩ := hv; go_simp; try with_reducible rfl) ?_
      try simp only [Act.put, List.setIfInBounds_toArray, List.set_cons_zero, List.set_cons_succ]
      refine restS_take (i := 8) S0.out rfl (by kernel_rfl) (by kernel_rfl) (by kernel_rfl) (by rfl) (fun v hv => by obtain ⟨s0, s1⟩ := hv; go_simp; try with_reducible rfl) ?_
      try simp only [Act.put, List.setIfInBounds_toArray, List.set_cons_zero, List.set_cons_succ]
      refine restS_take (i := 9) S0.out rfl (by kernel_rfl) (by kernel_rfl) (by kernel_rfl) (by rfl) (fun v hv => by obtain ⟨s0, s1⟩ := hv; go_simp; try with_reducible rfl) ?_
      try simp only [Act.put, List.setIfInBounds_toArray, List.set_cons_zero, List.set_cons_succ]
      refine restS_lone (i := 10) rfl (by kernel_rfl) (by rfl) (fun K hK => ?_)
      refine Mp.wp_upd (.tmp 68) (.tmp 71) (.tmp 74) rfl keys_entry Try.underlying48 X9.out.ma (name, q) Y rfl rfl rfl ?_
      intro wk hmk hgk hsk
      have hGk : wk.heap[G]? = wj.heap[G]? := by_block hgk G (lt_of_heap X9.out.hG) (fun e => X9.out.ma.cells X9.out.hG e.symm)
      have hDk : wk.heap[D]? = wj.heap[D]? := by_block hgk D (lt_of_heap D9.out) (fun e => X9.out.ma.cells D9.out e.symm)
      have XA := Lib.hid (X9.out.putA hmk hgk)
      have CA := Lib.hid (Ch.trans C9.out (Ch.by_ (F := FF G L) hgk (.inr (.inl rfl))))
      have DA := Lib.hid (hDk.trans D9.out)
      refine hK.out _ _ (SX.out _ hGk hDk) ?_
      clear hK K hmk hgk hsk hGk hDk SX S0 X9 C9 D9
      try simp only [Act.put, List.setIfInBounds_toArray, List.set_cons_zero, List.set_cons_succ]
      refine restS_done (by kernel_rfl) ?_
      obtain ⟨d0, d1, _, _⟩ := row_cells DA.out
      obtain ⟨cz, wz, hcv, hcz, hbq, hgz⟩ := conv_bq wk Y
      obtain ⟨gb, hgb⟩ : ∃ gb, gb = wk.heap.size := ⟨_, rfl⟩
      rw [hYl] at hcv hcz
      rw [← hgb] at hcv hbq
      have HGB := Lib.hid hgb
      have HBQ := Lib.hid hbq
      have XB := Lib.hid (XA.out.grow hgz)
      have CB := Lib.hid (Ch.trans CA.out (Ch.grown hgz))
      have HSZ := Lib.hid CA.out.size
      clear hgb hbq hgz XA CA DA
      go_wp2
      go_ret
      have HTn : Tab4 (fnNew st name q Y m.toNat) (Mp.put fa (name, q) Y) (Mp.put fg (name, Y) ()) ff fb := ⟨HT.out.a.put HFA.out Y, HT.out.g.put name q Y, HT.out.f, HT.out.b, HT.out.w⟩
      rw [HF.out, ← HY.out]
      refine ⟨some ⟨gb, 0, none⟩, nb, cz, rfl, hYl, hcz, HBQ.out.rd, (fun x hx _ => by simp only [Option.some.injEq] at hx; subst hx; show w.heap.size ≤ gb; rw [HGB.out]; exact HSZ.out), ⟨A2, n2, c2, _, _, _, _, ?_, HTn⟩, CB.out⟩
      have h9 := XB.out
      rw [HBB.out, HK.out] at h9
      exact h9
end
end Go.Proofs.Ytanalbdbkfmifaa.S11
