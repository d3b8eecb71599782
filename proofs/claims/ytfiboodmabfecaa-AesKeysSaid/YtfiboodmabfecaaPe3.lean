/-
  AesKeys: the walk.
-/
import Derived.Test.YtfiboodmabfecaaPe0
namespace Go.Proofs.Ytfiboodmabfecaa.S7
open Go.RowKit
set_option linter.unusedVariables false
set_option linter.unusedSimpArgs false

theorem cell_far {w : World} {p q : Addr} (h : q.block ≠ p.block) (u : Value) : (w.setCell p u).cell? q = w.cell? q := World.cell?_of_block (Below.heap_setCell w p u q.block h)
theorem Ci.far {w : World} {G : Nat} {W : List UInt8} (h : Ci w G W) {p : Addr} (hp : G ≠ p.block) (u : Value) : Ci (w.setCell p u) G W :=
  ⟨⟨by simpa using h.1.1, fun j hj => (cell_far (q := ⟨G, j, none⟩) hp u).trans (h.1.2 j hj)⟩, fun j hj => (cell_far (q := ⟨G, 240 + j, none⟩) hp u).trans (h.2.1 j hj), fun j hj => (cell_far (q := ⟨G, 496 + j, none⟩) hp u).trans (h.2.2 j hj)⟩
theorem own_first {w : World} {base c : Nat} {A : Option Addr} {l : List UInt8} (h : Own w base A c l) (hl : l.length = 32) : ∃ g cur x, A = some ⟨g, 0, none⟩ ∧ base ≤ g ∧ w.heap[g]? = some (.cells cur 5 (0, 0)) ∧ w.cell? ⟨g, 0, none⟩ = some (.int .u8 ((UInt8.toNat x : Nat) : Int)) := by
  rcases h.form with ⟨_, h2, _⟩ | ⟨g, cur, h1, h2, h3, _⟩
  · rw [h2] at hl; cases hl
  · subst h1
    obtain ⟨b, off, e, _, hc⟩ := h.rd.at_ (k := 0) (by omega)
    simp only [Option.some.injEq, Addr.mk.injEq] at e
    obtain ⟨rfl, rfl, _⟩ := e
    exact ⟨g, cur, l[0], rfl, h2, h3, hc⟩

set_option maxHeartbeats 4000000 in
set_option maxRecDepth 20000 in
theorem keysL_walk (A : Option Addr) (n c : Nat) (k : List UInt8) (w : World) (hR : Rd w w.heap.size A k) (hn : k.length = n) (hc : n ≤ c) (hm : n ≤ 9223372036854775807) : Calls Try.prog 5 #[.slice A n c] w (Says w true) := by
  have HN := Lib.hid hn
  have HR := Lib.hid hR
  clear hn hR
  by_cases hbig : 1000 < n
  · have b1 : (1000 : Int) < (n : Int) := by omega
    go_enter Try.func5, Try.ntmps5
    go_wp2_with fail
    refine (awake w).mono ?_
    rintro e w1 ⟨rfl, hg1⟩
    have G1 := Lib.hid hg1
    clear hg1
    go_wp2_with fail
    refine (awake_twice w w1 G1.out).mono ?_
    rintro e w2 ⟨rfl, hg2⟩
    have G2 := Lib.hid hg2
    clear hg2 G1
    go_wp2
    go_ret
    exact ⟨rfl, G2.out⟩
  · have b1 : ¬ (1000 : Int) < (n : Int) := by omega
    have b2 : (n : Int) ≤ 1000 := by omega
    go_enter Try.func5, Try.ntmps5
    go_wp2_with fail
    refine (awake w).mono ?_
    rintro e w1 ⟨rfl, hg1⟩
    have G1 := Lib.hid hg1
    have HR1 := Lib.hid (HR.out.grow hg1)
    clear hg1 HR
    go_wp2_with (first
      | (at_builtin
         refine wpList_app rfl (.tmp 15) (.tmp 16) rfl (base := w1.heap.size) (l := []) (c := 0) rfl (Own.lit w1 [] (Nat.le_refl _) (by simp)) (l2 := k) (by rw [HN.out]; rfl) (HR1.out.grow (alloc_below w1 _)) (by rw [HN.out]; simp; omega) (by simp) k (by simp) ?_
         intro A2 c2 w2 ho2 hb2
         rw [HN.out]
         have HO2 := Lib.hid ho2
         have G2 := Lib.hid (show Grown w1 w2 from (alloc_below w1 _).trans hb2)
         clear ho2 hb2))
    have hc2 : n ≤ c2 := by have := HO2.out.le; rwa [HN.out] at this
    have GG := Lib.hid (G1.out.trans (Below.mono G2.out G1.out.size))
    by_cases h32 : n = 32
    · obtain rfl : n = 32 := h32
      clear HR1
      refine (new_any A2 c2 k HN.out hc2 _ HO2.out.rd).mono ?_
      rintro e w3 ⟨G, rfl, hG, hCi, hg3⟩
      obtain ⟨g, cur, x, rfl, hbg, hheap, hcell⟩ := own_first HO2.out HN.out
      have hgl : g < w2.heap.size := lt_of_heap hheap
      have hGg : G ≠ g := by omega
      have hwg : w.heap.size ≤ g := by have := G1.out.size; omega
      have B3 := Lib.hid (GG.out.trans (Below.mono hg3 GG.out.size))
      have K3 := Lib.hid (show w3.heap[g]? = some (.cells cur 5 (0, 0)) ∧ w3.cell? ⟨g, 0, none⟩ = some (.int .u8 ((UInt8.toNat x : Nat) : Int)) from ⟨(hg3.block g hgl).trans hheap, (hg3.cell (p := ⟨g, 0, none⟩) hgl).trans hcell⟩)
      obtain ⟨W, hW⟩ : ∃ W, W = keysL k := ⟨_, rfl⟩
      rw [← hW] at hCi
      have C3 := Lib.hid hCi
      have HEnc := Lib.hid (show ∀ V, Ci V G W → Calls Try.prog 9 #[.pointer (some ⟨G, 0, none⟩), .agg #[Value.int .u8 0, Value.int .u8 0, Value.int .u8 0, Value.int .u8 0, Value.int .u8 0, Value.int .u8 0, Value.int .u8 0, Value.int .u8 0, Value.int .u8 0, Value.int .u8 0, Value.int .u8 0, Value.int .u8 0, Value.int .u8 0, Value.int .u8 0, Value.int .u8 0, Value.int .u8 0]] V (fun e w' => e = .returned (.agg (bvs (encL W zs16)).toArray) ∧ Grown V w') from fun V hV => enc_any G W zs16 rfl V hV)
      have HXl := Lib.hid (show (encL W zs16).length = 16 from encL_len _ _)
      obtain ⟨X, hX⟩ : ∃ X, X = encL W zs16 := ⟨_, rfl⟩
      rw [← hX] at HEnc HXl
      clear hW hX hG hCi hg3 hheap hcell hbg HO2 G2 GG G1 hc2 hc hm hbig
      go_wp2_with fail
      refine (HEnc.out _ C3.out).mono ?_
      rintro e w4 ⟨rfl, hg4⟩
      have hgl3 : g < w3.heap.size := lt_of_heap K3.out.1
      have B4 := Lib.hid (B3.out.trans (Below.mono hg4 B3.out.size))
      have K4 := Lib.hid (show w4.heap[g]? = some (.cells cur 5 (0, 0)) ∧ w4.cell? ⟨g, 0, none⟩ = some (.int .u8 ((UInt8.toNat x : Nat) : Int)) from ⟨(hg4.block g hgl3).trans K3.out.1, (hg4.cell (p := ⟨g, 0, none⟩) hgl3).trans K3.out.2⟩)
      have C4 := Lib.hid (C3.out.grow hg4)
      clear hg4 B3 K3 C3
      obtain ⟨gx, hgx⟩ : ∃ gx, gx = w4.heap.size := ⟨_, rfl⟩
      have hgl4 : g < w4.heap.size := lt_of_heap K4.out.1
      have hxg : gx ≠ g := by omega
      have B5 := Lib.hid (show Below w.heap.size w (w4.alloc (.cells (bvs X).toArray 23)) from B4.out.alloc B4.out.size _)
      have C5 := Lib.hid (C4.out.grow (alloc_below w4 (.cells (bvs X).toArray 23)))
      have X5 := Lib.hid (show Bk (w4.alloc (.cells (bvs X).toArray 23)) gx 23 X by rw [hgx]; exact Bk.new w4 _ _)
      have k5 : (w4.alloc (.cells (bvs X).toArray 23)).cell? ⟨g, 0, none⟩ = some (.int .u8 ((UInt8.toNat x : Nat) : Int)) := ((alloc_below w4 _).cell (p := ⟨g, 0, none⟩) hgl4).trans K4.out.2
      have f5 : (w4.alloc (.cells (bvs X).toArray 23)).frozen? ⟨g, 0, none⟩ = false := frozen_of_row _ g 0 cur 5 (((alloc_below w4 _).block g hgl4).trans K4.out.1)
      have HGX := Lib.hid hgx
      clear K4 hgx
      go_wp2_with (first
        | (refine wpList_store_last rfl 23 (.tmp 6) (.tmp 34) rfl rfl rfl (size16 HXl.out) (by simp [bvs, HXl.out]) (one16 X) ?_))
      rw [← HGX.out]
      clear k5 f5
      have hgx := HGX.out
      clear HGX
      clear B5 C5 X5
      have B6 := Lib.hid (fun u => (B4.out.setCell (p := ⟨g, 0, none⟩) hwg u).alloc (by have := B4.out.size; simpa using this) (.cells (bvs X).toArray 23))
      have C6 := Lib.hid (fun u => (C4.out.far (p := ⟨g, 0, none⟩) hGg u).grow (alloc_below _ (.cells (bvs X).toArray 23)))
      have X6 := Lib.hid (fun u => show Bk ((w4.setCell ⟨g, 0, none⟩ u).alloc (.cells (bvs X).toArray 23)) gx 23 X by
        have := Bk.new (w4.setCell ⟨g, 0, none⟩ u) 23 X
        rwa [show (w4.setCell ⟨g, 0, none⟩ u).heap.size = gx by rw [hgx]; simp] at this)
      clear B4 C4 hgx
      obtain ⟨u, hu⟩ : ∃ u, u = Value.int .u8 (((x.toNat : Int) + 1) % 256) := ⟨_, rfl⟩
      rw [← hu]
      have B7 := Lib.hid (B6.out u)
      have C7 := Lib.hid (C6.out u)
      have X7 := Lib.hid (X6.out u)
      clear B6 C6 X6
      generalize (w4.setCell _ u).alloc _ = w6 at B7 C7 X7 ⊢
      try simp only [Act.put]
      refine rest_start (by kernel_rfl) fun v hv => ?_
      have B8 := Lib.hid (B7.out.trans (Below.mono hv B7.out.size))
      have C8 := Lib.hid (C7.out.grow hv)
      have X8 := Lib.hid (X7.out.grow hv)
      clear hv B7 C7 X7
      refine rest_take (i := 0) rfl (by kernel_rfl) (by kernel_rfl) (by kernel_rfl) (by rfl) (fun w' hg => by go_simp; try with_reducible rfl) ?_
      try simp only [Act.put, List.setIfInBounds_toArray, List.set_cons_zero, List.set_cons_succ]
      refine rest_take (i := 1) rfl (by kernel_rfl) (by kernel_rfl) (by kernel_rfl) (by rfl) (fun w' hg => by go_simp; try with_reducible rfl) ?_
      try simp only [Act.put, List.setIfInBounds_toArray, List.set_cons_zero, List.set_cons_succ]
      refine rest_take (i := 2) rfl (by kernel_rfl) (by kernel_rfl) (by kernel_rfl) (by rfl) (fun w' hg => by go_simp; try with_reducible rfl) ?_
      try simp only [Act.put, List.setIfInBounds_toArray, List.set_cons_zero, List.set_cons_succ]
      refine rest_take (i := 3) rfl (by kernel_rfl) (by kernel_rfl) (by kernel_rfl) (by rfl) (fun w' hg => by go_simp; try with_reducible rfl) ?_
      try simp only [Act.put, List.setIfInBounds_toArray, List.set_cons_zero, List.set_cons_succ]
      refine rest_take (i := 4) rfl (by kernel_rfl) (by kernel_rfl) (by kernel_rfl) (by rfl) (fun w' hg => by go_simp; try with_reducible rfl) ?_
      try simp only [Act.put, List.setIfInBounds_toArray, List.set_cons_zero, List.set_cons_succ]
      refine rest_take (i := 6) rfl (by kernel_rfl) (by kernel_rfl) (by kernel_rfl) (by rfl) (fun w' hg => exec_load_row 23 (.tmp 6) _ rfl ((hg.block _ (X8.out).lt).trans X8.out) u16B rfl (size16 HXl.out)) ?_
      try simp only [Act.put, List.setIfInBounds_toArray, List.set_cons_zero, List.set_cons_succ]
      refine rest_lone (i := 5) rfl (by kernel_rfl) (by rfl) (fun K hK => ?_)
      go_simp
      refine (HEnc.out _ C8.out).mono ?_
      rintro e v6 ⟨rfl, hg6⟩
      have B9 := Lib.hid (B8.out.trans (Below.mono hg6 B8.out.size))
      refine hK.out _ _ hg6 ?_
      clear hK K hg6 X8 C8
      try simp only [Act.put, List.setIfInBounds_toArray, List.set_cons_zero, List.set_cons_succ]
      refine rest_take (i := 7) rfl (by kernel_rfl) (by kernel_rfl) (by kernel_rfl) (by rfl) (fun w' hg => exec_eq_arr X 23 16 u16B (by kernel_rfl) HXl.out (.tmp 46) (.tmp 47) rfl rfl _) ?_
      try simp only [Act.put, List.setIfInBounds_toArray, List.set_cons_zero, List.set_cons_succ]
      refine rest_take (i := 8) rfl (by kernel_rfl) (by kernel_rfl) (by kernel_rfl) (by rfl) (fun w' hg => by go_simp; try with_reducible rfl) ?_
      try simp only [Act.put, List.setIfInBounds_toArray, List.set_cons_zero, List.set_cons_succ]
      refine rest_take (i := 9) rfl (by kernel_rfl) (by kernel_rfl) (by kernel_rfl) (by rfl) (fun w' hg => by go_simp; try with_reducible rfl) ?_
      try simp only [Act.put, List.setIfInBounds_toArray, List.set_cons_zero, List.set_cons_succ]
      refine rest_done (by kernel_rfl) ?_
      go_wp2
      go_ret
      exact ⟨rfl, B9.out⟩
    · clear HO2
      refine (new_no A2 n c2 h32 (by omega) _).mono ?_
      rintro e w3 ⟨rfl, rfl⟩
      have b3 : ((n : Int) == 32) = false := by simp; omega
      have b4 : ((n : Int) != 32) = true := by simp; omega
      have b5 : ¬ (n : Int) = 32 := by omega
      clear h32
      go_wp2
      go_ret
      exact ⟨rfl, GG.out⟩
end Go.Proofs.Ytfiboodmabfecaa.S7
