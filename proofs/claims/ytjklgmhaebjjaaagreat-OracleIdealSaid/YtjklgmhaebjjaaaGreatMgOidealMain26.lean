/-
  The program's New, Bad, Queries. The program's Forward and Backward; all that the laws ask of its tables.
-/
import Derived.Test.YtjklgmhaebjjaaaGreatMgOidealMain22
import Derived.Test.YtjklgmhaebjjaaaGreatMgOidealMain25
namespace Go.Proofs.YtjklgmhaebjjaaaGreat.S11
open Go.RowKit
set_option linter.unusedVariables false
set_option linter.unusedSimpArgs false

theorem lz_bad (w : World) (G : Nat) (F : Nat → Prop) (st : St) (h : Lz w G F st) : Calls Tryz.prog 71 #[.pointer (some ⟨G, 0, none⟩)] w fun e w' => e = .returned (.bool st.bad) ∧ Grown w w' := by
  obtain ⟨L, ⟨A, n, c, fa, fg, ff, fb, hr, _⟩, _⟩ := h
  have q : w.cell? ⟨G, 5, none⟩ = some (.bool st.bad) := cell_of_row w G 5 _ _ (0, 0) hr.hG
  obtain ⟨b, hb⟩ : ∃ b, b = st.bad := ⟨_, rfl⟩
  rw [← hb] at q ⊢
  clear hr hb
  go_enter Tryz.func71, Tryz.ntmps71
  go_wp2
  go_ret
  exact ⟨rfl, Grown.refl _⟩
theorem lz_count (w : World) (G : Nat) (F : Nat → Prop) (st : St) (h : Lz w G F st) : Calls Tryz.prog 77 #[.pointer (some ⟨G, 0, none⟩)] w fun e w' => e = .returned (.int .i64 (st.cnt : Int)) ∧ Grown w w' := by
  obtain ⟨L, ⟨A, n, c, fa, fg, ff, fb, hr, _⟩, _⟩ := h
  have q : w.cell? ⟨G, 6, none⟩ = some (.int .i64 (st.cnt : Int)) := cell_of_row w G 6 _ _ (0, 0) hr.hG
  obtain ⟨b, hb⟩ : ∃ b, b = st.cnt := ⟨_, rfl⟩
  rw [← hb] at q ⊢
  clear hr hb
  go_enter Tryz.func77, Tryz.ntmps77
  go_wp2
  go_ret
  exact ⟨rfl, Grown.refl _⟩
theorem five (v : World) (o : Obj) : let W := ((((v.alloc (.map #[] 0)).alloc (.map #[] 0)).alloc (.map #[] 0)).alloc (.map #[] 0)).alloc o
    W.heap[v.heap.size]? = some (.map #[] 0) ∧ W.heap[v.heap.size + 1]? = some (.map #[] 0) ∧ W.heap[v.heap.size + 1 + 1]? = some (.map #[] 0) ∧ W.heap[v.heap.size + 1 + 1 + 1]? = some (.map #[] 0) ∧ W.heap[v.heap.size + 1 + 1 + 1 + 1]? = some o ∧ Grown v W ∧ W.heap.size = v.heap.size + 1 + 1 + 1 + 1 + 1 := by
  intro W
  have hs : ∀ (x : World) (o : Obj), (x.alloc o).heap.size = x.heap.size + 1 := fun x o => by show (x.heap.push o).size = _; simp
  have ho : ∀ (x : World) (o : Obj) (i : Nat), i < x.heap.size → (x.alloc o).heap[i]? = x.heap[i]? := fun x o i hi => heap_alloc_old x o hi
  have hn : ∀ (x : World) (o : Obj) (i : Nat), i = x.heap.size → (x.alloc o).heap[i]? = some o := fun x o i hi => by rw [hi]; exact heap_alloc_new x o
  refine ⟨?_, ?_, ?_, ?_, ?_, ?_, by simp only [W, hs]⟩
  · show W.heap[_]? = _
    rw [ho _ _ _ (by simp only [hs]; omega), ho _ _ _ (by simp only [hs]; omega), ho _ _ _ (by simp only [hs]; omega), ho _ _ _ (by simp only [hs]; omega), hn _ _ _ (by simp only [hs])]
  · show W.heap[_]? = _
    rw [ho _ _ _ (by simp only [hs]; omega), ho _ _ _ (by simp only [hs]; omega), ho _ _ _ (by simp only [hs]; omega), hn _ _ _ (by simp only [hs])]
  · show W.heap[_]? = _
    rw [ho _ _ _ (by simp only [hs]; omega), ho _ _ _ (by simp only [hs]; omega), hn _ _ _ (by simp only [hs])]
  · show W.heap[_]? = _
    rw [ho _ _ _ (by simp only [hs]; omega), hn _ _ _ (by simp only [hs])]
  · show W.heap[_]? = _
    rw [hn _ _ _ (by simp only [hs])]
  · exact ((((alloc_below v _).trans (Below.mono (alloc_below _ _) (by simp only [hs]; omega))).trans (Below.mono (alloc_below _ _) (by simp only [hs]; omega))).trans (Below.mono (alloc_below _ _) (by simp only [hs]; omega))).trans (Below.mono (alloc_below _ _) (by simp only [hs]; omega))
set_option maxHeartbeats 4000000 in
theorem lz_new2 (A : Option Addr) (n c : Nat) (seed : List UInt8) (w : World) (hr : Rd w w.heap.size A seed) (hn : seed.length = n) (hc : n ≤ c) (hn2 : n ≤ 2000) : Calls Tryz.prog 27 #[.slice A n c] w fun e w' =>
    ∃ G F, e = .returned (.pointer (some ⟨G, 0, none⟩)) ∧ Lz w' G F (emp seed) ∧ (∀ k, F k → w.heap.size ≤ k) ∧ Grown w w' ∧ w'.heap.size = G + 1 := by
  have HR := Lib.hid hr
  have HN := Lib.hid hn
  clear hr hn
  have hmm := @run_makeMap Tryz.prog
  go_enter Tryz.func27, Tryz.ntmps27
  go_wp2_with fail
  refine (bclone_any A n c seed w HN.out (by omega) HR.out).mono ?_
  rintro e w2 ⟨A2, c2, rfl, ho, hg⟩
  have HO := Lib.hid ho
  have HG := Lib.hid hg
  clear ho hg
  go_wp2
  obtain ⟨h0, h1, h2, h3, h4, h5, h6⟩ := five w2 (.cells #[.slice A2 n c2, .map (some w2.heap.size), .map (some (w2.heap.size + 1)), .map (some (w2.heap.size + 1 + 1)), .map (some (w2.heap.size + 1 + 1 + 1)), .bool false, .int .i64 0] 93)
  generalize ((((w2.alloc _).alloc _).alloc _).alloc _).alloc _ = W at h0 h1 h2 h3 h4 h5 h6 ⊢
  have hle := HO.out.le
  rw [HN.out] at hle
  have hlt : ∀ x, A2 = some x → w.heap.size ≤ x.block ∧ x.block < w2.heap.size := fun x hx => by
    rcases HO.out.form with ⟨e, _⟩ | ⟨g, cur, e, hg, hh, _⟩
    · rw [e] at hx; cases hx
    · rw [e] at hx
      simp only [Option.some.injEq] at hx
      subst hx
      exact ⟨hg, lt_of_heap hh⟩
  have hsz : w.heap.size ≤ w2.heap.size := HG.out.size
  have hL : Lr W (w2.heap.size + 1 + 1 + 1 + 1) ⟨w2.heap.size, w2.heap.size + 1, w2.heap.size + 1 + 1, w2.heap.size + 1 + 1 + 1, A2.map (·.block)⟩ A2 n c2 seed false ((0 : Nat) : Int) (fun _ => none) (fun _ => none) (fun _ => none) (fun _ => none) := by
    refine ⟨h4, HN.out, hle, rfl, ?_, HO.out.rd.grow h5, Mp.Mp.new _ _ h0, Mp.Mp.new _ _ h1, Mp.Mp.new _ _ h2, Mp.Mp.new _ _ h3, ?_⟩
    · intro k hk
      simp only [Option.map_eq_some_iff] at hk
      obtain ⟨x, hx, rfl⟩ := hk
      have := (hlt x hx).2
      have := h5.size
      show x.block < _ ∧ x.block ≠ w2.heap.size + 1 + 1 + 1 + 1 ∧ x.block ≠ w2.heap.size ∧ x.block ≠ w2.heap.size + 1 ∧ x.block ≠ w2.heap.size + 1 + 1 ∧ x.block ≠ w2.heap.size + 1 + 1 + 1
      omega
    · show w2.heap.size ≠ w2.heap.size + 1 ∧ w2.heap.size ≠ w2.heap.size + 1 + 1 ∧ w2.heap.size ≠ w2.heap.size + 1 + 1 + 1 ∧ w2.heap.size + 1 ≠ w2.heap.size + 1 + 1 ∧ w2.heap.size + 1 ≠ w2.heap.size + 1 + 1 + 1 ∧ w2.heap.size + 1 + 1 ≠ w2.heap.size + 1 + 1 + 1
      omega
  go_ret
  refine ⟨_, FF _ _, rfl, ⟨_, ⟨A2, n, c2, _, _, _, _, hL, Tab4.nil seed⟩, fun k => Iff.rfl⟩, ?_, HG.out.trans h5, h6⟩
  rintro k (rfl | rfl | rfl | rfl | rfl | hk)
  · omega
  · exact hsz
  · show w.heap.size ≤ w2.heap.size + 1; omega
  · show w.heap.size ≤ w2.heap.size + 1 + 1; omega
  · show w.heap.size ≤ w2.heap.size + 1 + 1 + 1; omega
  · simp only [Option.map_eq_some_iff] at hk
    obtain ⟨x, hx, rfl⟩ := hk
    exact (hlt x hx).1
theorem lz_new (A : Option Addr) (n c : Nat) (seed : List UInt8) (w : World) (hr : Rd w w.heap.size A seed) (hn : seed.length = n) (hc : n ≤ c) (hn2 : n ≤ 2000) : Calls Tryz.prog 27 #[.slice A n c] w fun e w' =>
    ∃ G F, e = .returned (.pointer (some ⟨G, 0, none⟩)) ∧ Lz w' G F (emp seed) ∧ (∀ k, F k → w.heap.size ≤ k) ∧ Grown w w' :=
  (lz_new2 A n c seed w hr hn hc hn2).mono fun e w' ⟨G, F, h1, h2, h3, h4, _⟩ => ⟨G, F, h1, h2, h3, h4⟩
end Go.Proofs.YtjklgmhaebjjaaaGreat.S11
namespace Go.Proofs.YtjklgmhaebjjaaaGreat.S11
open Go.RowKit
set_option linter.unusedVariables false
set_option linter.unusedSimpArgs false

theorem outL_cells {w w' : World} {G : Nat} {L : Lay} {l : List UInt8} {st : St} {e : Ending} (h : OutL w G L l st e w') : w'.cell? ⟨G, 3, none⟩ = some (.map (some L.f)) ∧ w'.cell? ⟨G, 4, none⟩ = some (.map (some L.b)) := by
  obtain ⟨_, _, _, _, _, _, _, _, ⟨A, n, c, fa, fg, ff, fb, hr, _⟩, _⟩ := h
  exact ⟨cell_of_row w' G 3 _ _ (0, 0) hr.hG, cell_of_row w' G 4 _ _ (0, 0) hr.hG⟩
section
variable {w : World} {G : Nat} {L : Lay} {st : St}
set_option maxHeartbeats 4000000 in
set_option maxRecDepth 20000 in
theorem forw_any (h : Lm w G L st) (hfew : Few st) (name s : List UInt8) (As : Option Addr) (ns cs : Nat) (hnl : name.length ≤ 1000) (hsl : s.length = ns) (hsc : ns ≤ cs) (hs2 : ns ≤ 1000) (hrs : Rd w w.heap.size As s) (hoff : ∀ x, As = some x → s ≠ [] → ¬ FF G L x.block) :
    Calls Tryz.prog 75 #[.pointer (some ⟨G, 0, none⟩), .string ⟨name.toArray⟩, .slice As ns cs] w (OutL w G L (prOp st name s true).1 (prOp st name s true).2) := by
  obtain ⟨A, n, c, fa, fg, ff, fb, hr, ht⟩ := h
  have HP := Lib.hid (show ∀ v : World, Grown w v → Calls Tryz.prog 80 #[.pointer (some ⟨G, 0, none⟩), .map (some L.f), .map (some L.b), .string ⟨name.toArray⟩, .slice As ns cs] v (OutL v G L (prOp st name s true).1 (prOp st name s true).2) from
    fun v hv => partner_any (hr.grow hv) ht hfew true name s As ns cs hnl hsl hsc hs2 (hrs.grow hv) hoff)
  have S0 := Lib.hid (show w.drew.cell? ⟨G, 3, none⟩ = some (.map (some L.f)) ∧ w.drew.cell? ⟨G, 4, none⟩ = some (.map (some L.b)) from ⟨cell_of_row w G 3 _ _ (0, 0) hr.hG, cell_of_row w G 4 _ _ (0, 0) hr.hG⟩)
  have GD := Lib.hid (show Grown w w.drew from (Below.refl _ w).drew)
  obtain ⟨l, hl⟩ : ∃ l, l = (prOp st name s true).1 := ⟨_, rfl⟩
  obtain ⟨st2, hst2⟩ : ∃ st2, st2 = (prOp st name s true).2 := ⟨_, rfl⟩
  rw [← hl, ← hst2] at HP ⊢
  clear hr ht hfew hl hst2 hrs hoff hsl
  go_enter Tryz.func75, Tryz.ntmps75
  go_wp2_with fail
  refine restS_begin (fun v : World => v.cell? ⟨G, 3, none⟩ = some (.map (some L.f)) ∧ v.cell? ⟨G, 4, none⟩ = some (.map (some L.b))) (by kernel_rfl) ?_
  generalize w.drew = wd at S0 GD ⊢
  refine restS_take (i := 0) S0.out rfl (by kernel_rfl) (by kernel_rfl) (by kernel_rfl) (by rfl) (fun v hv => by obtain ⟨s0, s1⟩ := hv; go_simp; try with_reducible rfl) ?_
  try simp only [Act.put, List.setIfInBounds_toArray, List.set_cons_zero, List.set_cons_succ]
  refine restS_take (i := 1) S0.out rfl (by kernel_rfl) (by kernel_rfl) (by kernel_rfl) (by rfl) (fun v hv => by obtain ⟨s0, s1⟩ := hv; go_simp; try with_reducible rfl) ?_
  try simp only [Act.put, List.setIfInBounds_toArray, List.set_cons_zero, List.set_cons_succ]
  refine restS_take (i := 2) S0.out rfl (by kernel_rfl) (by kernel_rfl) (by kernel_rfl) (by rfl) (fun v hv => by obtain ⟨s0, s1⟩ := hv; go_simp; try with_reducible rfl) ?_
  try simp only [Act.put, List.setIfInBounds_toArray, List.set_cons_zero, List.set_cons_succ]
  refine restS_take (i := 3) S0.out rfl (by kernel_rfl) (by kernel_rfl) (by kernel_rfl) (by rfl) (fun v hv => by obtain ⟨s0, s1⟩ := hv; go_simp; try with_reducible rfl) ?_
  try simp only [Act.put, List.setIfInBounds_toArray, List.set_cons_zero, List.set_cons_succ]
  refine restS_take (i := 4) S0.out rfl (by kernel_rfl) (by kernel_rfl) (by kernel_rfl) (by rfl) (fun v hv => by obtain ⟨s0, s1⟩ := hv; go_simp; try with_reducible rfl) ?_
  try simp only [Act.put, List.setIfInBounds_toArray, List.set_cons_zero, List.set_cons_succ]
  refine restS_take (i := 5) S0.out rfl (by kernel_rfl) (by kernel_rfl) (by kernel_rfl) (by rfl) (fun v hv => by obtain ⟨s0, s1⟩ := hv; go_simp; try with_reducible rfl) ?_
  try simp only [Act.put, List.setIfInBounds_toArray, List.set_cons_zero, List.set_cons_succ]
  refine restS_take (i := 6) S0.out rfl (by kernel_rfl) (by kernel_rfl) (by kernel_rfl) (by rfl) (fun v hv => by obtain ⟨s0, s1⟩ := hv; go_simp; try with_reducible rfl) ?_
  try simp only [Act.put, List.setIfInBounds_toArray, List.set_cons_zero, List.set_cons_succ]
  refine restS_take (i := 7) S0.out rfl (by kernel_rfl) (by kernel_rfl) (by kernel_rfl) (by rfl) (fun v hv => by obtain ⟨s0, s1⟩ := hv; go_simp; try with_reducible rfl) ?_
  try simp only [Act.put, List.setIfInBounds_toArray, List.set_cons_zero, List.set_cons_succ]
  refine restS_take (i := 8) S0.out rfl (by kernel_rfl) (by kernel_rfl) (by kernel_rfl) (by rfl) (fun v hv => by obtain ⟨s0, s1⟩ := hv; go_simp; try with_reducible rfl) ?_
  try simp only [Act.put, List.setIfInBounds_toArray, List.set_cons_zero, List.set_cons_succ]
  refine restS_take (i := 9) S0.out rfl (by kernel_rfl) (by kernel_rfl) (by kernel_rfl) (by rfl) (fun v hv => by obtain ⟨s0, s1⟩ := hv; go_simp; try with_reducible rfl) ?_
  try simp only [Act.put, List.setIfInBounds_toArray, List.set_cons_zero, List.set_cons_succ]
  refine restS_take (i := 10) S0.out rfl (by kernel_rfl) (by kernel_rfl) (by kernel_rfl) (by rfl) (fun v hv => by obtain ⟨s0, s1⟩ := hv; go_simp; try with_reducible rfl) ?_
  try simp only [Act.put, List.setIfInBounds_toArray, List.set_cons_zero, List.set_cons_succ]
  refine restS_lone (i := 11) rfl (by kernel_rfl) (by rfl) (fun K hK => ?_)
  go_simp
  refine (HP.out wd GD.out).mono ?_
  rintro e w2 h2
  have HO := Lib.hid h2
  have S2 := Lib.hid (outL_cells h2)
  obtain ⟨A3, n3, c3, rfl, h3⟩ := h2
  clear h3
  refine hK.out _ _ S2.out ?_
  clear hK K
  try simp only [Act.put, List.setIfInBounds_toArray, List.set_cons_zero, List.set_cons_succ]
  refine restS_take (i := 12) S2.out rfl (by kernel_rfl) (by kernel_rfl) (by kernel_rfl) (by rfl) (fun v hv => by obtain ⟨s0, s1⟩ := hv; go_simp; try with_reducible rfl) ?_
  try simp only [Act.put, List.setIfInBounds_toArray, List.set_cons_zero, List.set_cons_succ]
  refine restS_done (by kernel_rfl) ?_
  go_wp2
  go_ret
  obtain ⟨A4, n4, c4, h4, h5, h6, h7, h8, h9, h10⟩ := HO.out
  exact ⟨A4, n4, c4, h4, h5, h6, h7, (fun x hx hne => Nat.le_trans GD.out.size (h8 x hx hne)), h9, Ch.trans (Ch.grown GD.out) h10⟩
set_option maxHeartbeats 4000000 in
set_option maxRecDepth 20000 in
theorem back_any (h : Lm w G L st) (hfew : Few st) (name s : List UInt8) (As : Option Addr) (ns cs : Nat) (hnl : name.length ≤ 1000) (hsl : s.length = ns) (hsc : ns ≤ cs) (hs2 : ns ≤ 1000) (hrs : Rd w w.heap.size As s) (hoff : ∀ x, As = some x → s ≠ [] → ¬ FF G L x.block) :
    Calls Tryz.prog 73 #[.pointer (some ⟨G, 0, none⟩), .string ⟨name.toArray⟩, .slice As ns cs] w (OutL w G L (prOp st name s false).1 (prOp st name s false).2) := by
  obtain ⟨A, n, c, fa, fg, ff, fb, hr, ht⟩ := h
  have HP := Lib.hid (show ∀ v : World, Grown w v → Calls Tryz.prog 80 #[.pointer (some ⟨G, 0, none⟩), .map (some L.b), .map (some L.f), .string ⟨name.toArray⟩, .slice As ns cs] v (OutL v G L (prOp st name s false).1 (prOp st name s false).2) from
    fun v hv => partner_any (hr.grow hv) ht hfew false name s As ns cs hnl hsl hsc hs2 (hrs.grow hv) hoff)
  have S0 := Lib.hid (show w.drew.cell? ⟨G, 3, none⟩ = some (.map (some L.f)) ∧ w.drew.cell? ⟨G, 4, none⟩ = some (.map (some L.b)) from ⟨cell_of_row w G 3 _ _ (0, 0) hr.hG, cell_of_row w G 4 _ _ (0, 0) hr.hG⟩)
  have GD := Lib.hid (show Grown w w.drew from (Below.refl _ w).drew)
  obtain ⟨l, hl⟩ : ∃ l, l = (prOp st name s false).1 := ⟨_, rfl⟩
  obtain ⟨st2, hst2⟩ : ∃ st2, st2 = (prOp st name s false).2 := ⟨_, rfl⟩
  rw [← hl, ← hst2] at HP ⊢
  clear hr ht hfew hl hst2 hrs hoff hsl
  go_enter Tryz.func73, Tryz.ntmps73
  go_wp2_with fail
  refine restS_begin (fun v : World => v.cell? ⟨G, 3, none⟩ = some (.map (some L.f)) ∧ v.cell? ⟨G, 4, none⟩ = some (.map (some L.b))) (by kernel_rfl) ?_
  generalize w.drew = wd at S0 GD ⊢
  refine restS_take (i := 0) S0.out rfl (by kernel_rfl) (by kernel_rfl) (by kernel_rfl) (by rfl) (fun v hv => by obtain ⟨s0, s1⟩ := hv; go_simp; try with_reducible rfl) ?_
  try simp only [Act.put, List.setIfInBounds_toArray, List.set_cons_zero, List.set_cons_succ]
  refine restS_take (i := 1) S0.out rfl (by kernel_rfl) (by kernel_rfl) (by kernel_rfl) (by rfl) (fun v hv => by obtain ⟨s0, s1⟩ := hv; go_simp; try with_reducible rfl) ?_
  try simp only [Act.put, List.setIfInBounds_toArray, List.set_cons_zero, List.set_cons_succ]
  refine restS_take (i := 2) S0.out rfl (by kernel_rfl) (by kernel_rfl) (by kernel_rfl) (by rfl) (fun v hv => by obtain ⟨s0, s1⟩ := hv; go_simp; try with_reducible rfl) ?_
  try simp only [Act.put, List.setIfInBounds_toArray, List.set_cons_zero, List.set_cons_succ]
  refine restS_take (i := 3) S0.out rfl (by kernel_rfl) (by kernel_rfl) (by kernel_rfl) (by rfl) (fun v hv => by obtain ⟨s0, s1⟩ := hv; go_simp; try with_reducible rfl) ?_
  try simp only [Act.put, List.setIfInBounds_toArray, List.set_cons_zero, List.set_cons_succ]
  refine restS_take (i := 4) S0.out rfl (by kernel_rfl) (by kernel_rfl) (by kernel_rfl) (by rfl) (fun v hv => by obtain ⟨s0, s1⟩ := hv; go_simp; try with_reducible rfl) ?_
  try simp only [Act.put, List.setIfInBounds_toArray, List.set_cons_zero, List.set_cons_succ]
  refine restS_take (i := 5) S0.out rfl (by kernel_rfl) (by kernel_rfl) (by kernel_rfl) (by rfl) (fun v hv => by obtain ⟨s0, s1⟩ := hv; go_simp; try with_reducible rfl) ?_
  try simp only [Act.put, List.setIfInBounds_toArray, List.set_cons_zero, List.set_cons_succ]
  refine restS_take (i := 6) S0.out rfl (by kernel_rfl) (by kernel_rfl) (by kernel_rfl) (by rfl) (fun v hv => by obtain ⟨s0, s1⟩ := hv; go_simp; try with_reducible rfl) ?_
  try simp only [Act.put, List.setIfInBounds_toArray, List.set_cons_zero, List.set_cons_succ]
  refine restS_take (i := 7) S0.out rfl (by kernel_rfl) (by kernel_rfl) (by kernel_rfl) (by rfl) (fun v hv => by obtain ⟨s0, s1⟩ := hv; go_simp; try with_reducible rfl) ?_
  try simp only [Act.put, List.setIfInBounds_toArray, List.set_cons_zero, List.set_cons_succ]
  refine restS_take (i := 8) S0.out rfl (by kernel_rfl) (by kernel_rfl) (by kernel_rfl) (by rfl) (fun v hv => by obtain ⟨s0, s1⟩ := hv; go_simp; try with_reducible rfl) ?_
  try simp only [Act.put, List.setIfInBounds_toArray, List.set_cons_zero, List.set_cons_succ]
  refine restS_take (i := 9) S0.out rfl (by kernel_rfl) (by kernel_rfl) (by kernel_rfl) (by rfl) (fun v hv => by obtain ⟨s0, s1⟩ := hv; go_simp; try with_reducible rfl) ?_
  try simp only [Act.put, List.setIfInBounds_toArray, List.set_cons_zero, List.set_cons_succ]
  refine restS_take (i := 10) S0.out rfl (by kernel_rfl) (by kernel_rfl) (by kernel_rfl) (by rfl) (fun v hv => by obtain ⟨s0, s1⟩ := hv; go_simp; try with_reducible rfl) ?_
  try simp only [Act.put, List.setIfInBounds_toArray, List.set_cons_zero, List.set_cons_succ]
  refine restS_lone (i := 11) rfl (by kernel_rfl) (by rfl) (fun K hK => ?_)
  go_simp
  refine (HP.out wd GD.out).mono ?_
  rintro e w2 h2
  have HO := Lib.hid h2
  have S2 := Lib.hid (outL_cells h2)
  obtain ⟨A3, n3, c3, rfl, h3⟩ := h2
  clear h3
  refine hK.out _ _ S2.out ?_
  clear hK K
  try simp only [Act.put, List.setIfInBounds_toArray, List.set_cons_zero, List.set_cons_succ]
  refine restS_take (i := 12) S2.out rfl (by kernel_rfl) (by kernel_rfl) (by kernel_rfl) (by rfl) (fun v hv => by obtain ⟨s0, s1⟩ := hv; go_simp; try with_reducible rfl) ?_
  try simp only [Act.put, List.setIfInBounds_toArray, List.set_cons_zero, List.set_cons_succ]
  refine restS_done (by kernel_rfl) ?_
  go_wp2
  go_ret
  obtain ⟨A4, n4, c4, h4, h5, h6, h7, h8, h9, h10⟩ := HO.out
  exact ⟨A4, n4, c4, h4, h5, h6, h7, (fun x hx hne => Nat.le_trans GD.out.size (h8 x hx hne)), h9, Ch.trans (Ch.grown GD.out) h10⟩
end
theorem tapeOk : TapeOk Lz where
  foot := lz_foot
  keep := lz_keep
  new := fun A n c seed w hr hn hc hn2 => lz_new A n c seed w hr hn hc hn2
  draw := fun w G F st n h hfew hn => by
    obtain ⟨L, ⟨A, m, c, fa, fg, ff, fb, hr, ht⟩, hF⟩ := h
    refine (draw_raw hr n hn).mono ?_
    rintro e w' ⟨B, nb, cb, A2, n2, c2, rfl, h1, h2, h3, h4, h5, h6⟩
    refine outL_out (L := L) (st := st) hr.lt hF ⟨B, nb, cb, rfl, h1, h2, h3, h4, ⟨A2, n2, c2, fa, fg, ff, fb, h5, ⟨ht.a, ht.g, ht.f, ht.b, ht.w⟩⟩, Ch.then (Ch.refl (FF G L) w) h6 (fun k _ e => .inl e)⟩
  func := fun w G F st name q n h hfew h1 h2 h3 => by
    obtain ⟨L, ⟨A, m, c, fa, fg, ff, fb, hr, ht⟩, hF⟩ := h
    exact (fn_any hr ht hfew name q n h1 h2 h3).mono fun e w' ho => outL_out (L := L) (st := st) hr.lt hF ho
  forw := fun w G F st name A n c s h hfew h1 h2 h3 h4 h5 h6 => by
    obtain ⟨L, hm, hF⟩ := h
    have hl : ∀ k, FF G L k → k < w.heap.size := by obtain ⟨_, _, _, _, _, _, _, hr, _⟩ := hm; exact hr.lt
    exact (forw_any hm hfew name s A n c h1 h3 h4 h2 h5 (fun x hx hne hf => h6 x hx hne ((hF _).2 hf))).mono fun e w' ho => outL_out (L := L) (st := st) hl hF ho
  back := fun w G F st name A n c s h hfew h1 h2 h3 h4 h5 h6 => by
    obtain ⟨L, hm, hF⟩ := h
    have hl : ∀ k, FF G L k → k < w.heap.size := by obtain ⟨_, _, _, _, _, _, _, hr, _⟩ := hm; exact hr.lt
    exact (back_any hm hfew name s A n c h1 h3 h4 h2 h5 (fun x hx hne hf => h6 x hx hne ((hF _).2 hf))).mono fun e w' ho => outL_out (L := L) (st := st) hl hF ho
  bad := lz_bad
  count := lz_count
end Go.Proofs.YtjklgmhaebjjaaaGreat.S11
