/-
  The program's New, Bad, Queries.
-/
import Derived.Test.YtanalbdbkfmifaaTqD
namespace Go.Proofs.Ytanalbdbkfmifaa.S11
open Go.RowKit
set_option linter.unusedVariables false
set_option linter.unusedSimpArgs false

theorem lz_bad (w : World) (G : Nat) (F : Nat → Prop) (st : St) (h : Lz w G F st) : Calls Try.prog 16 #[.pointer (some ⟨G, 0, none⟩)] w fun e w' => e = .returned (.bool st.bad) ∧ Grown w w' := by
  obtain ⟨L, ⟨A, n, c, fa, fg, ff, fb, hr, _⟩, _⟩ := h
  have q : w.cell? ⟨G, 5, none⟩ = some (.bool st.bad) := cell_of_row w G 5 _ _ (0, 0) hr.hG
  obtain ⟨b, hb⟩ : ∃ b, b = st.bad := ⟨_, rfl⟩
  rw [← hb] at q ⊢
  clear hr hb
  go_enter Try.func16, Try.ntmps16
  go_wp2
  go_ret
  exact ⟨rfl, Grown.refl _⟩
theorem lz_count (w : World) (G : Nat) (F : Nat → Prop) (st : St) (h : Lz w G F st) : Calls Try.prog 17 #[.pointer (some ⟨G, 0, none⟩)] w fun e w' => e = .returned (.int .i64 (st.cnt : Int)) ∧ Grown w w' := by
  obtain ⟨L, ⟨A, n, c, fa, fg, ff, fb, hr, _⟩, _⟩ := h
  have q : w.cell? ⟨G, 6, none⟩ = some (.int .i64 (st.cnt : Int)) := cell_of_row w G 6 _ _ (0, 0) hr.hG
  obtain ⟨b, hb⟩ : ∃ b, b = st.cnt := ⟨_, rfl⟩
  rw [← hb] at q ⊢
  clear hr hb
  go_enter Try.func17, Try.ntmps17
  go_wp2
  go_ret
  exact ⟨rfl, Grown.refl _⟩
theorem five (v : World) (o : Obj) : let W := ((((v.alloc (.map #[] 0)).alloc (.map #[] 0)).alloc (.map #[] 0)).alloc (.map #[] 0)).alloc o
    W.heap[v.heap.size]? = some (.map #[] 0) ∧ W.heap[v.heap.size + 1]? = some (.map #[] 0) ∧ W.heap[v.heap.size + 1 + 1]? = some (.map #[] 0) ∧ W.heap[v.heap.size + 1 + 1 + 1]? = some (.map #[] 0) ∧ W.heap[v.heap.size + 1 + 1 + 1 + 1]? = some o ∧ Grown v W := by
  intro W
  have hs : ∀ (x : World) (o : Obj), (x.alloc o).heap.size = x.heap.size + 1 := fun x o => by show (x.heap.push o).size = _; simp
  have ho : ∀ (x : World) (o : Obj) (i : Nat), i < x.heap.size → (x.alloc o).heap[i]? = x.heap[i]? := fun x o i hi => heap_alloc_old x o hi
  have hn : ∀ (x : World) (o : Obj) (i : Nat), i = x.heap.size → (x.alloc o).heap[i]? = some o := fun x o i hi => by rw [hi]; exact heap_alloc_new x o
  refine ⟨?_, ?_, ?_, ?_, ?_, ?_⟩
  · show W.heap[_]? = _
    rw [ho _ _ _ (by simp only [hs]; omega), ho _ _ _ (by simp only [hs]; omega), ho _ _ _ (by simp only [hs]; omega), ho _ _ _ (by simp only [hs]; omega), hn _ _ _ (by simp only [hs])]
  · show W.heap[_]? = _
    rw [ho _ _ _ (by simp only [hs]; omega), ho _ _ _ (by simp only [hs]; omega), ho _ _ _ (by simp only [hs]; omega), hn _ _ _ (by simp only [hs])]
  · show W.heap[_]? = _
    rw [ho _ _ _ (by simp only [hs]; omega), ho _ _ _ (by simp only [hs]; omega), hn _ _ _ (by simp only [hs])]
  · show W.heap[_]? = _
    rw [ho _ _ _ (by simp only [hs]; omega), hn _ _ _ (by simp only [hs])]
  · show W.heap[_]? = _
    rw [hn _ _ _ (by simp only [hs])]
  · exact ((((alloc_below v _).trans (Below.mono (alloc_below _ _) (by simp only [hs]; omega))).trans (Below.mono (alloc_below _ _) (by simp only [hs]; omega))).trans (Below.mono (alloc_below _ _) (by simp only [hs]; omega))).trans (Below.mono (alloc_below _ _) (by simp only [hs]; omega))
set_option maxHeartbeats 4000000 in
theorem lz_new (A : Option Addr) (n c : Nat) (seed : List UInt8) (w : World) (hr : Rd w w.heap.size A seed) (hn : seed.length = n) (hc : n ≤ c) (hn2 : n ≤ 2000) : Calls Try.prog 8 #[.slice A n c] w fun e w' =>
    ∃ G F, e = .returned (.pointer (some ⟨G, 0, none⟩)) ∧ Lz w' G F (emp seed) ∧ (∀ k, F k → w.heap.size ≤ k) ∧ Grown w w' := by
  have HR := Lib.hid hr
  have HN := Lib.hid hn
  clear hr hn
  have hmm := @run_makeMap Try.prog
  go_enter Try.func8, Try.ntmps8
  go_wp2_with fail
  refine (bclone_any A n c seed w HN.out (by omega) HR.out).mono ?_
  rintro e w2 ⟨A2, c2, rfl, ho, hg⟩
  have HO := Lib.hid ho
  have HG := Lib.hid hg
  clear ho hg
  go_wp2
  obtain ⟨h0, h1, h2, h3, h4, h5⟩ := five w2 (.cells #[.slice A2 n c2, .map (some w2.heap.size), .map (some (w2.heap.size + 1)), .map (some (w2.heap.size + 1 + 1)), .map (some (w2.heap.size + 1 + 1 + 1)), .bool false, .int .i64 0] 53)
  generalize ((((w2.alloc _).alloc _).alloc _).alloc _).alloc _ = W at h0 h1 h2 h3 h4 h5 ⊢
  have hle := HO.out.le
  rw [HN.out] at hle
  have hlt : ∀ x, A2 = some x → w.heap.size ≤ x.block ∧ x.block < w2.heap.size := fun x hx => by
    rcases HO.out.form with ⟨e, _⟩ | ⟨g, cur, e, hg, hh, _⟩
    · rw [e] at hx; cases hx
    · rw [e] at hx
      simp only [Option.some.injEq] at hx
      subst hx
      exact ⟨hg, lt_of_heap hh⟩
  have hsz : w.heap.size ≤ w2.heap.size := HG.out.size
  have hL : Lr W (w2.heap.size + 1 + 1 + 1 + 1) ⟨w2.heap.size, w2.heap.size + 1, w2.heap.size + 1 + 1, w2.heap.size + 1 + 1 + 1, A2.map (·.block)⟩ A2 n c2 seed false ((0 : Nat) : Int) (fun _ => none) (fun _ => none) (fun _ => none) (fun _ => none) := by
    refine ⟨h4, HN.out, hle, rfl, ?_, HO.out.rd.grow h5, Mp.Mp.new _ _ h0, Mp.Mp.new _ _ h1, Mp.Mp.new _ _ h2, Mp.Mp.new _ _ h3, ?_⟩
    · intro k hk
      simp only [Option.map_eq_some_iff] at hk
      obtain ⟨x, hx, rfl⟩ := hk
      have := (hlt x hx).2
      have := h5.size
      show x.block < _ ∧ x.block ≠ w2.heap.size + 1 + 1 + 1 + 1 ∧ x.block ≠ w2.heap.size ∧ x.block ≠ w2.heap.size + 1 ∧ x.block ≠ w2.heap.size + 1 + 1 ∧ x.block ≠ w2.heap.size + 1 + 1 + 1
      omega
    · show w2.heap.size ≠ w2.heap.size + 1 ∧ w2.heap.size ≠ w2.heap.size + 1 + 1 ∧ w2.heap.size ≠ w2.heap.size + 1 + 1 + 1 ∧ w2.heap.size + 1 ≠ w2.heap.size + 1 + 1 ∧ w2.heap.size + 1 ≠ w2.heap.size + 1 + 1 + 1 ∧ w2.heap.size + 1 + 1 ≠ w2.heap.size + 1 + 1 + 1
      omega
  go_ret
  refine ⟨_, FF _ _, rfl, ⟨_, ⟨A2, n, c2, _, _, _, _, hL, Tab4.nil seed⟩, fun k => Iff.rfl⟩, ?_, HG.out.trans h5⟩
  rintro k (rfl | rfl | rfl | rfl | rfl | hk)
  · omega
  · exact hsz
  · show w.heap.size ≤ w2.heap.size + 1; omega
  · show w.heap.size ≤ w2.heap.size + 1 + 1; omega
  · show w.heap.size ≤ w2.heap.size + 1 + 1 + 1; omega
  · simp only [Option.map_eq_some_iff] at hk
    obtain ⟨x, hx, rfl⟩ := hk
    exact (hlt x hx).1
end Go.Proofs.Ytanalbdbkfmifaa.S11
