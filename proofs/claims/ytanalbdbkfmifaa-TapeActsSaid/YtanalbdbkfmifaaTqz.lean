/-
  The program's Forward and Backward; all that the laws ask of its tables.
-/
import Derived.Test.YtanalbdbkfmifaaTqP
import Derived.Test.YtanalbdbkfmifaaTqW
namespace Go.Proofs.Ytanalbdbkfmifaa.S11
open Go.RowKit
set_option linter.unusedVariables false
set_option linter.unusedSimpArgs false

theorem outL_cells {w w' : World} {G : Nat} {L : Lay} {l : List UInt8} {st : St} {e : Ending} (h : OutL w G L l st e w') : w'.cell? ⟨G, 3, none⟩ = some (.map (some L.f)) ∧ w'.cell? ⟨G, 4, none⟩ = some (.map (some L.b)) := by
  obtain ⟨_, _, _, _, _, _, _, _, ⟨A, n, c, fa, fg, ff, fb, hr, _⟩, _⟩ := h
  exact ⟨cell_of_row w' G 3 _ _ (0, 0) hr.hG, cell_of_row w' G 4 _ _ (0, 0) hr.hG⟩
section
variable {w : World} {G : Nat} {L : Lay} {st : St}
set_option maxHeartbeats 4000000 in
theorem forw_any (h : Lm w G L st) (hfew : Few st) (name s : List UInt8) (As : Option Addr) (ns cs : Nat) (hnl : name.length ≤ 1000) (hsl : s.length = ns) (hsc : ns ≤ cs) (hs2 : ns ≤ 1000) (hrs : Rd w w.heap.size As s) (hoff : ∀ x, As = some x → s ≠ [] → ¬ FF G L x.block) :
    Calls Try.prog 11 #[.pointer (some ⟨G, 0, none⟩), .string ⟨name.toArray⟩, .slice As ns cs] w (OutL w G L (prOp st name s true).1 (prOp st name s true).2) := by
  obtain ⟨A, n, c, fa, fg, ff, fb, hr, ht⟩ := h
  have HP := Lib.hid (show ∀ v : World, Grown w v → Calls Try.prog 20 #[.pointer (some ⟨G, 0, none⟩), .map (some L.f), .map (some L.b), .string ⟨name.toArray⟩, .slice As ns cs] v (OutL v G L (prOp st name s true).1 (prOp st name s true).2) from
    fun v hv => partner_any (hr.grow hv) ht hfew true name s As ns cs hnl hsl hsc hs2 (hrs.grow hv) hoff)
  have S0 := Lib.hid (show w.drew.cell? ⟨G, 3, none⟩ = some (.map (some L.f)) ∧ w.drew.cell? ⟨G, 4, none⟩ = some (.map (some L.b)) from ⟨cell_of_row w G 3 _ _ (0, 0) hr.hG, cell_of_row w G 4 _ _ (0, 0) hr.hG⟩)
  have GD := Lib.hid (show Grown w w.drew from (Below.refl _ w).drew)
  obtain ⟨l, hl⟩ : ∃ l, l = (prOp st name s true).1 := ⟨_, rfl⟩
  obtain ⟨st2, hst2⟩ : ∃ st2, st2 = (prOp st name s true).2 := ⟨_, rfl⟩
  rw [← hl, ← hst2] at HP ⊢
  clear hr ht hfew hl hst2 hrs hoff hsl
  go_enter Try.func11, Try.ntmps11
  go_wp2_with fail
  refine restS_begin (fun v : World => v.cell? ⟨G, 3, none⟩ = some (.map (some L.f)) ∧ v.cell? ⟨G, 4, none⟩ = some (.map (some L.b))) (by kernel_rfl) ?_
  generalize w.drew = wd at S0 GD ⊢
  refine restS_take (i := 0) S0.out rfl (by kernel_rfl) (by kernel_rfl) (by kernel_rfl) (by rfl) (fun v hv => by obtain ⟨s0, s1⟩ := hv; go_simp; try with_reducible rfl) ?_
  try simp only [Act.put, List.setIfInBounds_toArray, List.set_cons_zero, List.set_cons_succ]
  refine restS_take (i := 1) S0.out rfl (by kernel_rfl) (by kernel_rfl) (by kernel_rfl) (by rfl) (fun v hv => by obtain ⟨s0, s1⟩ := hv; go_simp; try with_reducible rfl) ?_
  try simp only [Act.put, List.setIfInBounds_toArray, List.set_cons_zero, List.set_cons_succ]
  refine restS_take (i := 2) S0.out rfl (by kernel_rfl) (by kernel_rfl) (by kernel_rfl) (by rfl) (fun v hv => by obtain ⟨s0, s1⟩ := hv; go_simp; try with_reducible rfl) ?_
  try simp only [Act.put, List.setIfInBounds_toArray, List.set_cons_zero, List.set_cons_succ]
  refine restS_take (i := 3) S0.out rfl (by kernel_rfl) (by kernel_rfl) (by kernel_rfl) (by rfl) (fun v hv => by obtain ⟨s0, s1⟩ := hv; go_simp; try with_reducible rfl) ?_
  try simp only [Act.put, List.setIfInBounds_toArray, List.set_cons_zero, List.set_cons_succ]
  refine restS_take (i := 4) S0.out rfl (by kernel_rfl) (by kernel_rfl) (by kernel_rfl) (by rfl) (fun v hv => by obtain ⟨s0, s1⟩ := hv; go_simp; try with_reducible rfl) ?_
  try simp only [Act.put, List.setIfInBounds_toArray, List.set_cons_zero, List.set_cons_succ]
  refine restS_take (i := 5) S0.out rfl (by kernel_rfl) (by kernel_rfl) (by kernel_rfl) (by rfl) (fun v hv => by obtain ⟨s0, s1⟩ := hv; go_simp; try with_reducible rfl) ?_
  try simp only [Act.put, List.setIfInBounds_toArray, List.set_cons_zero, List.set_cons_succ]
  refine restS_take (i := 6) S0.out rfl (by kernel_rfl) (by kernel_rfl) (by kernel_rfl) (by rfl) (fun v hv => by obtain ⟨s0, s1⟩ := hv; go_simp; try with_reducible rfl) ?_
  try simp only [Act.put, List.setIfInBounds_toArray, List.set_cons_zero, List.set_cons_succ]
  refine restS_take (i := 7) S0.out rfl (by kernel_rfl) (by kernel_rfl) (by kernel_rfl) (by rfl) (fun v hv => by obtain ⟨s0, s1⟩ := hv; go_simp; try with_reducible rfl) ?_
  try simp only [Act.put, List.setIfInBounds_toArray, List.set_cons_zero, List.set_cons_succ]
  refine restS_take (i := 8) S0.out rfl (by kernel_rfl) (by kernel_rfl) (by kernel_rfl) (by rfl) (fun v hv => by obtain ⟨s0, s1⟩ := hv; go_simp; try with_reducible rfl) ?_
  try simp only [Act.put, List.setIfInBounds_toArray, List.set_cons_zero, List.set_cons_succ]
  refine restS_take (i := 9) S0.out rfl (by kernel_rfl) (by kernel_rfl) (by kernel_rfl) (by rfl) (fun v hv => by obtain ⟨s0, s1⟩ := hv; go_simp; try with_reducible rfl) ?_
  try simp only [Act.put, List.setIfInBounds_toArray, List.set_cons_zero, List.set_cons_succ]
  refine restS_take (i := 10) S0.out rfl (by kernel_rfl) (by kernel_rfl) (by kernel_rfl) (by rfl) (fun v hv => by obtain ⟨s0, s1⟩ := hv; go_simp; try with_reducible rfl) ?_
  try simp only [Act.put, List.setIfInBounds_toArray, List.set_cons_zero, List.set_cons_succ]
  refine restS_lone (i := 11) rfl (by kernel_rfl) (by rfl) (fun K hK => ?_)
  go_simp
  refine (HP.out wd GD.out).mono ?_
  rintro e w2 h2
  have HO := Lib.hid h2
  have S2 := Lib.hid (outL_cells h2)
  obtain ⟨A3, n3, c3, rfl, h3⟩ := h2
  clear h3
  refine hK.out _ _ S2.out ?_
  clear hK K
  try simp only [Act.put, List.setIfInBounds_toArray, List.set_cons_zero, List.set_cons_succ]
  refine restS_take (i := 12) S2.out rfl (by kernel_rfl) (by kernel_rfl) (by kernel_rfl) (by rfl) (fun v hv => by obtain ⟨s0, s1⟩ := hv; go_simp; try with_reducible rfl) ?_
  try simp only [Act.put, List.setIfInBounds_toArray, List.set_cons_zero, List.set_cons_succ]
  refine restS_done (by kernel_rfl) ?_
  go_wp2
  go_ret
  obtain ⟨A4, n4, c4, h4, h5, h6, h7, h8, h9, h10⟩ := HO.out
  exact ⟨A4, n4, c4, h4, h5, h6, h7, (fun x hx hne => Nat.le_trans GD.out.size (h8 x hx hne)), h9, Ch.trans (Ch.grown GD.out) h10⟩
set_option maxHeartbeats 4000000 in
theorem back_any (h : Lm w G L st) (hfew : Few st) (name s : List UInt8) (As : Option Addr) (ns cs : Nat) (hnl : name.length ≤ 1000) (hsl : s.length = ns) (hsc : ns ≤ cs) (hs2 : ns ≤ 1000) (hrs : Rd w w.heap.size As s) (hoff : ∀ x, As = some x → s ≠ [] → ¬ FF G L x.block) :
    Calls Try.prog 13 #[.pointer (some ⟨G, 0, none⟩), .string ⟨name.toArray⟩, .slice As ns cs] w (OutL w G L (prOp st name s false).1 (prOp st name s false).2) := by
  obtain ⟨A, n, c, fa, fg, ff, fb, hr, ht⟩ := h
  have HP := Lib.hid (show ∀ v : World, Grown w v → Calls Try.prog 20 #[.pointer (some ⟨G, 0, none⟩), .map (some L.b), .map (some L.f), .string ⟨name.toArray⟩, .slice As ns cs] v (OutL v G L (prOp st name s false).1 (prOp st name s false).2) from
    fun v hv => partner_any (hr.grow hv) ht hfew false name s As ns cs hnl hsl hsc hs2 (hrs.grow hv) hoff)
  have S0 := Lib.hid (show w.drew.cell? ⟨G, 3, none⟩ = some (.map (some L.f)) ∧ w.drew.cell? ⟨G, 4, none⟩ = some (.map (some L.b)) from ⟨cell_of_row w G 3 _ _ (0, 0) hr.hG, cell_of_row w G 4 _ _ (0, 0) hr.hG⟩)
  have GD := Lib.hid (show Grown w w.drew from (Below.refl _ w).drew)
  obtain ⟨l, hl⟩ : ∃ l, l = (prOp st name s false).1 := ⟨_, rfl⟩
  obtain ⟨st2, hst2⟩ : ∃ st2, st2 = (prOp st name s false).2 := ⟨_, rfl⟩
  rw [← hl, ← hst2] at HP ⊢
  clear hr ht hfew hl hst2 hrs hoff hsl
  go_enter Try.func13, Try.ntmps13
  go_wp2_with fail
  refine restS_begin (fun v : World => v.cell? ⟨G, 3, none⟩ = some (.map (some L.f)) ∧ v.cell? ⟨G, 4, none⟩ = some (.map (some L.b))) (by kernel_rfl) ?_
  generalize w.drew = wd at S0 GD ⊢
  refine restS_take (i := 0) S0.out rfl (by kernel_rfl) (by kernel_rfl) (by kernel_rfl) (by rfl) (fun v hv => by obtain ⟨s0, s1⟩ := hv; go_simp; try with_reducible rfl) ?_
  try simp only [Act.put, List.setIfInBounds_toArray, List.set_cons_zero, List.set_cons_succ]
  refine restS_take (i := 1) S0.out rfl (by kernel_rfl) (by kernel_rfl) (by kernel_rfl) (by rfl) (fun v hv => by obtain ⟨s0, s1⟩ := hv; go_simp; try with_reducible rfl) ?_
  try simp only [Act.put, List.setIfInBounds_toArray, List.set_cons_zero, List.set_cons_succ]
  refine restS_take (i := 2) S0.out rfl (by kernel_rfl) (by kernel_rfl) (by kernel_rfl) (by rfl) (fun v hv => by obtain ⟨s0, s1⟩ := hv; go_simp; try with_reducible rfl) ?_
  try simp only [Act.put, List.setIfInBounds_toArray, List.set_cons_zero, List.set_cons_succ]
  refine restS_take (i := 3) S0.out rfl (by kernel_rfl) (by kernel_rfl) (by kernel_rfl) (by rfl) (fun v hv => by obtain ⟨s0, s1⟩ := hv; go_simp; try with_reducible rfl) ?_
  try simp only [Act.put, List.setIfInBounds_toArray, List.set_cons_zero, List.set_cons_succ]
  refine restS_take (i := 4) S0.out rfl (by kernel_rfl) (by kernel_rfl) (by kernel_rfl) (by rfl) (fun v hv => by obtain ⟨s0, s1⟩ := hv; go_simp; try with_reducible rfl) ?_
  try simp only [Act.put, List.setIfInBounds_toArray, List.set_cons_zero, List.set_cons_succ]
  refine restS_take (i := 5) S0.out rfl (by kernel_rfl) (by kernel_rfl) (by kernel_rfl) (by rfl) (fun v hv => by obtain ⟨s0, s1⟩ := hv; go_simp; try with_reducible rfl) ?_
  try simp only [Act.put, List.setIfInBounds_toArray, List.set_cons_zero, List.set_cons_succ]
  refine restS_take (i := 6) S0.out rfl (by kernel_rfl) (by kernel_rfl) (by kernel_rfl) (by rfl) (fun v hv => by obtain ⟨s0, s1⟩ := hv; go_simp; try with_reducible rfl) ?_
  try simp only [Act.put, List.setIfInBounds_toArray, List.set_cons_zero, List.set_cons_succ]
  refine restS_take (i := 7) S0.out rfl (by kernel_rfl) (by kernel_rfl) (by kernel_rfl) (by rfl) (fun v hv => by obtain ⟨s0, s1⟩ := hv; go_simp; try with_reducible rfl) ?_
  try simp only [Act.put, List.setIfInBounds_toArray, List.set_cons_zero, List.set_cons_succ]
  refine restS_take (i := 8) S0.out rfl (by kernel_rfl) (by kernel_rfl) (by kernel_rfl) (by rfl) (fun v hv => by obtain ⟨s0, s1⟩ := hv; go_simp; try with_reducible rfl) ?_
  try simp only [Act.put, List.setIfInBounds_toArray, List.set_cons_zero, List.set_cons_succ]
  refine restS_take (i := 9) S0.out rfl (by kernel_rfl) (by kernel_rfl) (by kernel_rfl) (by rfl) (fun v hv => by obtain ⟨s0, s1⟩ := hv; go_simp; try with_reducible rfl) ?_
  try simp only [Act.put, List.setIfInBounds_toArray, List.set_cons_zero, List.set_cons_succ]
  refine restS_take (i := 10) S0.out rfl (by kernel_rfl) (by kernel_rfl) (by kernel_rfl) (by rfl) (fun v hv => by obtain ⟨s0, s1⟩ := hv; go_simp; try with_reducible rfl) ?_
  try simp only [Act.put, List.setIfInBounds_toArray, List.set_cons_zero, List.set_cons_succ]
  refine restS_lone (i := 11) rfl (by kernel_rfl) (by rfl) (fun K hK => ?_)
  go_simp
  refine (HP.out wd GD.out).mono ?_
  rintro e w2 h2
  have HO := Lib.hid h2
  have S2 := Lib.hid (outL_cells h2)
  obtain ⟨A3, n3, c3, rfl, h3⟩ := h2
  clear h3
  refine hK.out _ _ S2.out ?_
  clear hK K
  try simp only [Act.put, List.setIfInBounds_toArray, List.set_cons_zero, List.set_cons_succ]
  refine restS_take (i := 12) S2.out rfl (by kernel_rfl) (by kernel_rfl) (by kernel_rfl) (by rfl) (fun v hv => by obtain ⟨s0, s1⟩ := hv; go_simp; try with_reducible rfl) ?_
  try simp only [Act.put, List.setIfInBounds_toArray, List.set_cons_zero, List.set_cons_succ]
  refine restS_done (by kernel_rfl) ?_
  go_wp2
  go_ret
  obtain ⟨A4, n4, c4, h4, h5, h6, h7, h8, h9, h10⟩ := HO.out
  exact ⟨A4, n4, c4, h4, h5, h6, h7, (fun x hx hne => Nat.le_trans GD.out.size (h8 x hx hne)), h9, Ch.trans (Ch.grown GD.out) h10⟩
end
theorem tapeOk : TapeOk Lz where
  foot := lz_foot
  keep := lz_keep
  new := fun A n c seed w hr hn hc hn2 => lz_new A n c seed w hr hn hc hn2
  draw := fun w G F st n h hfew hn => by
    obtain ⟨L, ⟨A, m, c, fa, fg, ff, fb, hr, ht⟩, hF⟩ := h
    refine (draw_raw hr n hn).mono ?_
    rintro e w' ⟨B, nb, cb, A2, n2, c2, rfl, h1, h2, h3, h4, h5, h6⟩
    refine outL_out (L := L) (st := st) hr.lt hF ⟨B, nb, cb, rfl, h1, h2, h3, h4, ⟨A2, n2, c2, fa, fg, ff, fb, h5, ⟨ht.a, ht.g, ht.f, ht.b, ht.w⟩⟩, Ch.then (Ch.refl (FF G L) w) h6 (fun k _ e => .inl e)⟩
  func := fun w G F st name q n h hfew h1 h2 h3 => by
    obtain ⟨L, ⟨A, m, c, fa, fg, ff, fb, hr, ht⟩, hF⟩ := h
    exact (fn_any hr ht hfew name q n h1 h2 h3).mono fun e w' ho => outL_out (L := L) (st := st) hr.lt hF ho
  forw := fun w G F st name A n c s h hfew h1 h2 h3 h4 h5 h6 => by
    obtain ⟨L, hm, hF⟩ := h
    have hl : ∀ k, FF G L k → k < w.heap.size := by obtain ⟨_, _, _, _, _, _, _, hr, _⟩ := hm; exact hr.lt
    exact (forw_any hm hfew name s A n c h1 h3 h4 h2 h5 (fun x hx hne hf => h6 x hx hne ((hF _).2 hf))).mono fun e w' ho => outL_out (L := L) (st := st) hl hF ho
  back := fun w G F st name A n c s h hfew h1 h2 h3 h4 h5 h6 => by
    obtain ⟨L, hm, hF⟩ := h
    have hl : ∀ k, FF G L k → k < w.heap.size := by obtain ⟨_, _, _, _, _, _, _, hr, _⟩ := hm; exact hr.lt
    exact (back_any hm hfew name s A n c h1 h3 h4 h2 h5 (fun x hx hne hf => h6 x hx hne ((hF _).2 hf))).mono fun e w' ho => outL_out (L := L) (st := st) hl hF ho
  bad := lz_bad
  count := lz_count
end Go.Proofs.Ytanalbdbkfmifaa.S11
