/-
  Contract of the reference's one: the value behind a block.
-/
import Derived.Test.YtbofikghcoalbaaDoorSbKk
import Derived.Test.YtbofikghcoalbaaDoorSbRo
import Derived.Test.YtbofikghcoalbaaDoorGrs
namespace Go.Proofs.YtbofikghcoalbaaDoor.S4
open Go.RowKit
set_option linter.unusedVariables false
set_option linter.unusedSimpArgs false

theorem cell_at {w : World} {p : Addr} {v : Value} (h : w.cell? p = some v) (w' : World) (hg : Grown w w') : w'.cell? p = some v :=
  (Below.cell hg (World.block_lt_of_cell? w p h)).trans h
theorem pw_top (l : List UInt8) (i : Nat) : pw l i 8 = (w0 l i).toNat := (toNat_of _ (pw_lt l i 8)).symm
theorem wl_first (l : List UInt8) (t : Nat) (h : t < 16) : wl l (t + 1) = wl l t ++ [w0 l t] := by rw [wl, if_pos h]
theorem wl_next (l : List UInt8) (t : Nat) (h : ¬ t < 16) : wl l (t + 1) = wl l t ++ [wp (wp (wp (s1 ((wl l t).getD (t - 2) 0)) ((wl l t).getD (t - 7) 0)) (s0 ((wl l t).getD (t - 15) 0))) ((wl l t).getD (t - 16) 0)] := by rw [wl, if_neg h]
theorem RdW.eight {w w' : World} {A : Option Addr} {s : St} (h : RdW w w.heap.size A s.l) (hb : Below w.heap.size w w') :
    ∃ g o, A = some ⟨g, o, none⟩ ∧ g < w.heap.size ∧ ∀ j, j < 8 → w'.cell? ⟨g, o + j, none⟩ = some (.int .u64 ((s.l.getD j 0).toNat : Int)) := by
  obtain ⟨b, off, e, hb2, hc⟩ := h.resolve_left (by simp [St.l])
  refine ⟨b, off, e, hb2, fun j hj => ?_⟩
  rw [hb.cell (p := ⟨b, off + j, none⟩) hb2, hc j hj]
  have : s.l.getD j 0 = s.l[j]'hj := by rw [List.getD_eq_getElem?_getD, List.getElem?_eq_getElem (show j < s.l.length from hj)]; rfl
  rw [this]
  rfl

set_option maxHeartbeats 8000000 in
set_option maxRecDepth 100000 in
theorem one_any (A1 A2 : Option Addr) (c1 c2 : Nat) (s : St) (l : List UInt8) (w : World) (h1 : RdW w w.heap.size A1 s.l) (h2 : Rd w w.heap.size A2 l) (hl : l.length = 128) :
    Calls Tryd.prog 21 #[.slice A1 8 c1, .slice A2 128 c2] w (MakesW w (blk s l).l) := by
  have H1 := Lib.hid h1
  have H2 := Lib.hid h2
  have Hl := Lib.hid hl
  clear h1 h2 hl
  go_enter Tryd.func21, Tryd.ntmps21
  go_wp2
  go_loopw [5, 6] (fun v i wr => ∃ (k : Nat) (A : Option Addr) (c : Nat), k ≤ 16 ∧ i = .int .i64 (k : Int) ∧ v = .slice A k c ∧ Hid (OwnW wr w.heap.size A c (wl l k)) ∧ Hid (Below w.heap.size w wr)) (fun _ i _ => 16 - (intOf i).toNat)
  case atStart => exact ⟨0, none, 0, by omega, rfl, rfl, OwnW.nil _ _, Below.refl _ _⟩
  case round =>
    obtain ⟨k, A, c, hk, rfl, rfl, Ho, Hb⟩ := hrel
    have hB := Hb.out.size
    by_cases hlt : k < 16
    · go_wp2
      have Hrd := Lib.hid (H2.out.below Hb.out)
      go_loop [7, 8] (fun x j => ∃ (jj N : Nat), jj ≤ 8 ∧ j = .int .i64 (jj : Int) ∧ x = .int .u64 (N : Int) ∧ Hid (N = pw l k jj)) (fun _ j => 8 - (intOf j).toNat)
      case atStart => exact ⟨0, 0, by omega, rfl, rfl, rfl⟩
      case round =>
        obtain ⟨jj, N, hjj, rfl, rfl, HN⟩ := hrel
        by_cases hj4 : jj < 8
        · have hN : N < 72057594037927936 := by
            have h3 := pw_lt l k jj
            rw [← HN.out] at h3
            exact Nat.lt_of_lt_of_le h3 (show 256 ^ jj ≤ 256 ^ 7 from Nat.pow_le_pow_right (by omega) (by omega))
          have hi : 8 * k + jj < l.length := by rw [Hl.out]; omega
          obtain ⟨b, off, rfl, hbb, hc⟩ := Hrd.out.at_ hi
          obtain ⟨y, hy⟩ : ∃ y, l[8 * k + jj] = y := ⟨_, rfl⟩
          rw [hy] at hc
          have hyl := u8_lt y
          have HN2 := Lib.hid (show N * 256 + y.toNat = pw l k (jj + 1) by rw [pw, ← HN.out, ← hy]; simp [hi])
          clear hy hi
          go_wp2
          go_round
          case rel => exact ⟨jj + 1, N * 256 + y.toNat, by omega, by go_num, by go_num, HN2.out⟩
          case measure => simp [intOf]; omega
        · obtain rfl : jj = 8 := by omega
          obtain ⟨y, hy⟩ : ∃ y, y = w0 l k := ⟨_, rfl⟩
          obtain rfl : N = y.toNat := by rw [HN.out, pw_top, hy]
          have Hy := Lib.hid (show wl l k ++ [y] = wl l (k + 1) by rw [wl_first l k hlt, hy])
          clear hy
          go_wp2_with (first
            | (at_builtin
               refine wpList_appW rfl (.tmp 45) (.tmp 47) rfl (base := w.heap.size) rfl (wl_len l k) (Ho.out.grow (alloc_below _ _)) rfl (y := y) (by simp) (by omega) (by simp; omega) ?_
               intro A3 c3 w3 ho3 hb3
               have Ho3 := Lib.hid ho3
               have Hb3 := Lib.hid hb3
               clear ho3 hb3))
          go_roundw
          case rel =>
            refine ⟨k + 1, A3, c3, by omega, by go_num, rfl, ?_, (Hb.out.alloc hB _).trans Hb3.out⟩
            show OwnW _ _ _ _ _
            have := Ho3.out
            rwa [Hy.out] at this
          case measure => simp [intOf]; omega
    · obtain rfl : k = 16 := by omega
      rw [show ((16 : Nat) : Int) = 16 from rfl]
      go_wp2
      go_loopw [5, 9] (fun v i wr => ∃ (t : Nat) (A : Option Addr) (c : Nat), 16 ≤ t ∧ t ≤ 80 ∧ i = .int .i64 (t : Int) ∧ v = .slice A t c ∧ Hid (OwnW wr w.heap.size A c (wl l t)) ∧ Hid (Below w.heap.size w wr)) (fun _ i _ => 80 - (intOf i).toNat)
      case atStart => exact ⟨16, A, c, by omega, by omega, rfl, rfl, Ho.out, Hb.out⟩
      case round =>
        clear Ho Hb hB hlt hk
        obtain ⟨t, A, c, ht, ht2, rfl, rfl, Ho, Hb⟩ := hrel
        by_cases hlt : t < 80
        · have hlen := wl_len l t
          obtain ⟨g, rfl, hgb, hcs⟩ := Ho.out.cells (by omega)
          obtain ⟨m2, hm2⟩ : ∃ m2, m2 = t - 2 := ⟨_, rfl⟩
          obtain ⟨m7, hm7⟩ : ∃ m7, m7 = t - 7 := ⟨_, rfl⟩
          obtain ⟨m15, hm15⟩ : ∃ m15, m15 = t - 15 := ⟨_, rfl⟩
          obtain ⟨m16, hm16⟩ : ∃ m16, m16 = t - 16 := ⟨_, rfl⟩
          have e2 : (t : Int) - 2 = (m2 : Int) := by omega
          have e7 : (t : Int) - 7 = (m7 : Int) := by omega
          have e15 : (t : Int) - 15 = (m15 : Int) := by omega
          have e16 : (t : Int) - 16 = (m16 : Int) := by omega
          have b2 : m2 < t := by omega
          have b7 : m7 < t := by omega
          have b15 : m15 < t := by omega
          have b16 : m16 < t := by omega
          have f2 : IntKind.i64.wrap (m2 : Int) = (m2 : Int) := by rw [IntKind.wrap_i64]; omega
          have f7 : IntKind.i64.wrap (m7 : Int) = (m7 : Int) := by rw [IntKind.wrap_i64]; omega
          have f15 : IntKind.i64.wrap (m15 : Int) = (m15 : Int) := by rw [IntKind.wrap_i64]; omega
          have f16 : IntKind.i64.wrap (m16 : Int) = (m16 : Int) := by rw [IntKind.wrap_i64]; omega
          have C2 := Lib.hid (hcs m2 (by omega))
          have C7 := Lib.hid (hcs m7 (by omega))
          have C15 := Lib.hid (hcs m15 (by omega))
          have C16 := Lib.hid (hcs m16 (by omega))
          have Hn := wl_next l t (by omega)
          rw [← hm2, ← hm7, ← hm15, ← hm16] at Hn
          clear hm2 hm7 hm15 hm16 hcs
          generalize (wl l t).getD m2 0 = x2 at C2 Hn
          generalize (wl l t).getD m7 0 = x7 at C7 Hn
          generalize (wl l t).getD m15 0 = x15 at C15 Hn
          generalize (wl l t).getD m16 0 = x16 at C16 Hn
          replace Hn := Lib.hid Hn
          have q1 : (x2.toNat : Int) / 64 = ((sr x2 6).toNat : Int) := i_sr x2 6
          have q0 : (x15.toNat : Int) / 128 = ((sr x15 7).toNat : Int) := i_sr x15 7
          have xx := i_xor
          have xa := i_addw
          obtain ⟨z1, hz1⟩ : ∃ z, wx (wx (rr x2 19) (rr x2 61)) (sr x2 6) = z := ⟨_, rfl⟩
          obtain ⟨z0, hz0⟩ : ∃ z, wx (wx (rr x15 1) (rr x15 8)) (sr x15 7) = z := ⟨_, rfl⟩
          obtain ⟨y, hy⟩ : ∃ y, wp (wp (wp z1 x7) z0) x16 = y := ⟨_, rfl⟩
          have Hy := Lib.hid (show wl l t ++ [y] = wl l (t + 1) by rw [Hn.out, ← hy, ← hz1, ← hz0]; rfl)
          clear hlen
          go_wp2
          refine rest_start (by kernel_rfl) fun v hv => ?_
          replace C2 := Lib.hid (cell_at C2.out _ hv)
          replace C7 := Lib.hid (cell_at C7.out _ hv)
          replace C15 := Lib.hid (cell_at C15.out _ hv)
          replace C16 := Lib.hid (cell_at C16.out _ hv)
          have G := Lib.hid hv
          clear hv
          refine rest_take (i := 0) rfl (by kernel_rfl) (by kernel_rfl) (by kernel_rfl) (by rfl) (fun w' hg => by go_simp; try with_reducible rfl) ?_
          try simp only [Act.put, List.setIfInBounds_toArray, List.set_cons_zero, List.set_cons_succ]
          refine rest_take (i := 1) rfl (by kernel_rfl) (by kernel_rfl) (by kernel_rfl) (by rfl) (fun w' hg => by go_simp; try with_reducible rfl) ?_
          try simp only [Act.put, List.setIfInBounds_toArray, List.set_cons_zero, List.set_cons_succ]
          refine rest_take (i := 2) rfl (by kernel_rfl) (by kernel_rfl) (by kernel_rfl) (by rfl) (fun w' hg => by go_simp; try with_reducible rfl) ?_
          try simp only [Act.put, List.setIfInBounds_toArray, List.set_cons_zero, List.set_cons_succ]
          refine rest_take (i := 3) rfl (by kernel_rfl) (by kernel_rfl) (by kernel_rfl) (by rfl) (fun w' hg => by go_simp; try with_reducible rfl) ?_
          try simp only [Act.put, List.setIfInBounds_toArray, List.set_cons_zero, List.set_cons_succ]
          refine rest_take (i := 4) rfl (by kernel_rfl) (by kernel_rfl) (by kernel_rfl) (by rfl) (fun w' hg => by have hc := cell_at C2.out w' hg; go_simp; try with_reducible rfl) ?_
          try simp only [Act.put, List.setIfInBounds_toArray, List.set_cons_zero, List.set_cons_succ]
          refine rest_take (i := 5) rfl (by kernel_rfl) (by kernel_rfl) (by kernel_rfl) (by rfl) (fun w' hg => by go_simp; try with_reducible rfl) ?_
          try simp only [Act.put, List.setIfInBounds_toArray, List.set_cons_zero, List.set_cons_succ]
          refine rest_take (i := 6) rfl (by kernel_rfl) (by kernel_rfl) (by kernel_rfl) (by rfl) (fun w' hg => by go_simp; try with_reducible rfl) ?_
          try simp only [Act.put, List.setIfInBounds_toArray, List.set_cons_zero, List.set_cons_succ]
          refine rest_take (i := 7) rfl (by kernel_rfl) (by kernel_rfl) (by kernel_rfl) (by rfl) (fun w' hg => by go_simp; try with_reducible rfl) ?_
          try simp only [Act.put, List.setIfInBounds_toArray, List.set_cons_zero, List.set_cons_succ]
          refine rest_take (i := 8) rfl (by kernel_rfl) (by kernel_rfl) (by kernel_rfl) (by rfl) (fun w' hg => by go_simp; try with_reducible rfl) ?_
          try simp only [Act.put, List.setIfInBounds_toArray, List.set_cons_zero, List.set_cons_succ]
          refine rest_take (i := 9) rfl (by kernel_rfl) (by kernel_rfl) (by kernel_rfl) (by rfl) (fun w' hg => by have hc := cell_at C15.out w' hg; go_simp; try with_reducible rfl) ?_
          try simp only [Act.put, List.setIfInBounds_toArray, List.set_cons_zero, List.set_cons_succ]
          refine rest_take (i := 10) rfl (by kernel_rfl) (by kernel_rfl) (by kernel_rfl) (by rfl) (fun w' hg => by go_simp; try with_reducible rfl) ?_
          try simp only [Act.put, List.setIfInBounds_toArray, List.set_cons_zero, List.set_cons_succ]
          refine rest_take (i := 11) rfl (by kernel_rfl) (by kernel_rfl) (by kernel_rfl) (by rfl) (fun w' hg => by go_simp; try with_reducible rfl) ?_
          try simp only [Act.put, List.setIfInBounds_toArray, List.set_cons_zero, List.set_cons_succ]
          refine rest_done (by kernel_rfl) ?_
          clear e2 e15 b2 b15 C2 C15
          go_wp2_with fail
          refine (rotr_any x2 19 _ (by omega) (by omega)).mono ?_
          rintro e v1 ⟨rfl, hv⟩
          replace C7 := Lib.hid (cell_at C7.out _ hv)
          replace C16 := Lib.hid (cell_at C16.out _ hv)
          replace G := Lib.hid (Grown.trans G.out hv)
          clear hv
          go_wp2_with fail
          refine (rotr_any x2 61 _ (by omega) (by omega)).mono ?_
          rintro e v2 ⟨rfl, hv⟩
          replace C7 := Lib.hid (cell_at C7.out _ hv)
          replace C16 := Lib.hid (cell_at C16.out _ hv)
          replace G := Lib.hid (Grown.trans G.out hv)
          clear hv
          go_wp2_with fail
          refine (rotr_any x15 1 _ (by omega) (by omega)).mono ?_
          rintro e v3 ⟨rfl, hv⟩
          replace C7 := Lib.hid (cell_at C7.out _ hv)
          replace C16 := Lib.hid (cell_at C16.out _ hv)
          replace G := Lib.hid (Grown.trans G.out hv)
          clear hv
          go_wp2_with fail
          refine (rotr_any x15 8 _ (by omega) (by omega)).mono ?_
          rintro e v4 ⟨rfl, hv⟩
          replace C7 := Lib.hid (cell_at C7.out _ hv)
          replace C16 := Lib.hid (cell_at C16.out _ hv)
          replace G := Lib.hid (Grown.trans G.out hv)
          clear hv
          go_wp2_with fail
          refine restS_begin (fun x => x.cell? ⟨g, m7, none⟩ = some (.int .u64 (x7.toNat : Int)) ∧ x.cell? ⟨g, m16, none⟩ = some (.int .u64 (x16.toNat : Int))) (by kernel_rfl) ?_
          obtain ⟨v5, hv5⟩ : ∃ v5, v5 = v4.drew := ⟨_, rfl⟩
          rw [← hv5]
          replace G := Lib.hid (Grown.trans G.out (show Grown v4 v5 by rw [hv5]; exact ⟨rfl, rfl, rfl, Nat.le_refl _, fun _ _ => rfl⟩))
          have HS := Lib.hid (show v5.cell? ⟨g, m7, none⟩ = some (.int .u64 (x7.toNat : Int)) ∧ v5.cell? ⟨g, m16, none⟩ = some (.int .u64 (x16.toNat : Int)) by rw [hv5]; exact ⟨C7.out, C16.out⟩)
          have HoG := Lib.hid (Ho.out.grow G.out)
          have hsz := G.out.size
          have hB := Hb.out.size
          have Hbg := Lib.hid (Hb.out.trans (G.out.mono hB))
          clear hv5 C7 C16
          refine restS_take (i := 0) HS.out rfl (by kernel_rfl) (by kernel_rfl) (by kernel_rfl) (by rfl) (fun w' hg => by go_simp; try with_reducible rfl) ?_
          try simp only [Act.put, List.setIfInBounds_toArray, List.set_cons_zero, List.set_cons_succ]
          refine restS_take (i := 1) HS.out rfl (by kernel_rfl) (by kernel_rfl) (by kernel_rfl) (by rfl) (fun w' hg => by go_simp; try with_reducible rfl) ?_
          try simp only [Act.put, List.setIfInBounds_toArray, List.set_cons_zero, List.set_cons_succ]
          refine restS_take (i := 2) HS.out rfl (by kernel_rfl) (by kernel_rfl) (by kernel_rfl) (by rfl) (fun w' hg => by go_simp; try with_reducible rfl) ?_
          try simp only [Act.put, List.setIfInBounds_toArray, List.set_cons_zero, List.set_cons_succ]
          refine restS_take (i := 3) HS.out rfl (by kernel_rfl) (by kernel_rfl) (by kernel_rfl) (by rfl) (fun w' hg => by go_simp; try with_reducible rfl) ?_
          try simp only [Act.put, List.setIfInBounds_toArray, List.set_cons_zero, List.set_cons_succ]
          refine restS_take (i := 4) HS.out rfl (by kernel_rfl) (by kernel_rfl) (by kernel_rfl) (by rfl) (fun w' hg => by go_simp; try with_reducible rfl) ?_
          try simp only [Act.put, List.setIfInBounds_toArray, List.set_cons_zero, List.set_cons_succ]
          refine restS_take (i := 5) HS.out rfl (by kernel_rfl) (by kernel_rfl) (by kernel_rfl) (by rfl) (fun w' hg => by go_simp; try with_reducible rfl) ?_
          try simp only [Act.put, List.setIfInBounds_toArray, List.set_cons_zero, List.set_cons_succ]
          refine restS_take (i := 6) HS.out rfl (by kernel_rfl) (by kernel_rfl) (by kernel_rfl) (by rfl) (fun w' hg => by have hc : w'.cell? ⟨g, m7, none⟩ = some (.int .u64 (x7.toNat : Int)) := hg.1; go_simp; try with_reducible rfl) ?_
          try simp only [Act.put, List.setIfInBounds_toArray, List.set_cons_zero, List.set_cons_succ]
          refine restS_take (i := 7) HS.out rfl (by kernel_rfl) (by kernel_rfl) (by kernel_rfl) (by rfl) (fun w' hg => by go_simp; try with_reducible rfl) ?_
          try simp only [Act.put, List.setIfInBounds_toArray, List.set_cons_zero, List.set_cons_succ]
          refine restS_take (i := 8) HS.out rfl (by kernel_rfl) (by kernel_rfl) (by kernel_rfl) (by rfl) (fun w' hg => by go_simp; try with_reducible rfl) ?_
          try simp only [Act.put, List.setIfInBounds_toArray, List.set_cons_zero, List.set_cons_succ]
          refine restS_take (i := 9) HS.out rfl (by kernel_rfl) (by kernel_rfl) (by kernel_rfl) (by rfl) (fun w' hg => by go_simp; try with_reducible rfl) ?_
          try simp only [Act.put, List.setIfInBounds_toArray, List.set_cons_zero, List.set_cons_succ]
          refine restS_take (i := 10) HS.out rfl (by kernel_rfl) (by kernel_rfl) (by kernel_rfl) (by rfl) (fun w' hg => by go_simp; try with_reducible rfl) ?_
          try simp only [Act.put, List.setIfInBounds_toArray, List.set_cons_zero, List.set_cons_succ]
          refine restS_take (i := 11) HS.out rfl (by kernel_rfl) (by kernel_rfl) (by kernel_rfl) (by rfl) (fun w' hg => by go_simp; try with_reducible rfl) ?_
          try simp only [Act.put, List.setIfInBounds_toArray, List.set_cons_zero, List.set_cons_succ]
          refine restS_take (i := 12) HS.out rfl (by kernel_rfl) (by kernel_rfl) (by kernel_rfl) (by rfl) (fun w' hg => by go_simp; try with_reducible rfl) ?_
          try simp only [Act.put, List.setIfInBounds_toArray, List.set_cons_zero, List.set_cons_succ]
          refine restS_take (i := 13) HS.out rfl (by kernel_rfl) (by kernel_rfl) (by kernel_rfl) (by rfl) (fun w' hg => by go_simp; try with_reducible rfl) ?_
          try simp only [Act.put, List.setIfInBounds_toArray, List.set_cons_zero, List.set_cons_succ]
          refine restS_take (i := 14) HS.out rfl (by kernel_rfl) (by kernel_rfl) (by kernel_rfl) (by rfl) (fun w' hg => by have hc : w'.cell? ⟨g, m16, none⟩ = some (.int .u64 (x16.toNat : Int)) := hg.2; go_simp; try with_reducible rfl) ?_
          try simp only [Act.put, List.setIfInBounds_toArray, List.set_cons_zero, List.set_cons_succ]
          refine restS_take (i := 15) HS.out rfl (by kernel_rfl) (by kernel_rfl) (by kernel_rfl) (by rfl) (fun w' hg => by go_simp; try with_reducible rfl) ?_
          try simp only [Act.put, List.setIfInBounds_toArray, List.set_cons_zero, List.set_cons_succ]
          refine restS_lone (i := 16) rfl (by kernel_rfl) (by rfl) (fun K hK => ?_)
          go_simp
          refine hK.out _ _ ⟨cell_at HS.out.1 _ (alloc_below _ _), cell_at HS.out.2 _ (alloc_below _ _)⟩ ?_
          clear hK K
          have Hal := Lib.hid (alloc_below v5 (.cells #[.int .u64 (y.toNat : Int)] 44))
          have Cad := Lib.hid (show (v5.alloc (.cells #[.int .u64 (y.toNat : Int)] 44)).cell? ⟨v5.heap.size, 0, none⟩ = some (.int .u64 (y.toNat : Int)) by simp)
          generalize v5.alloc (.cells #[.int .u64 (y.toNat : Int)] 44) = v6 at Hal Cad ⊢
          have hs6 := Hal.out.size
          try simp only [Act.put, List.setIfInBounds_toArray, List.set_cons_zero, List.set_cons_succ]
          refine restS_lone (i := 17) rfl (by kernel_rfl) (by rfl) (fun K hK => ?_)
          refine wp_appWc (.tmp 79) (.tmp 95) rfl (base := w.heap.size) rfl (wl_len l t) (HoG.out.grow Hal.out) rfl Cad.out (by omega) (by omega) ?_
          intro A3 c3 w3 ho3 hb3 hk3
          have Ho3 := Lib.hid ho3
          have Hb3 := Lib.hid hb3
          have HS3 := Lib.hid (And.intro ((hk3 m7 b7).trans (cell_at HS.out.1 _ Hal.out)) ((hk3 m16 b16).trans (cell_at HS.out.2 _ Hal.out)))
          refine hK.out _ _ HS3.out ?_
          clear hK K ho3 hb3 hk3
          try simp only [Act.put, List.setIfInBounds_toArray, List.set_cons_zero, List.set_cons_succ]
          refine restS_take (i := 18) HS3.out rfl (by kernel_rfl) (by kernel_rfl) (by kernel_rfl) (by rfl) (fun w' hg => by go_simp; try with_reducible rfl) ?_
          try simp only [Act.put, List.setIfInBounds_toArray, List.set_cons_zero, List.set_cons_succ]
          refine restS_done (by kernel_rfl) ?_
          clear HS HS3 Cad xx xa q1 q0 hz1 hz0 hy e7 e16 f2 f7 f15 f16 b7 b16
          go_wp2
          go_roundw
          case rel =>
            refine ⟨t + 1, A3, c3, by omega, by omega, by go_num, rfl, ?_, (Hbg.out.trans (Hal.out.mono (by omega))).trans Hb3.out⟩
            show OwnW _ _ _ _ _
            have := Ho3.out
            rwa [Hy.out] at this
          case measure => simp [intOf]; omega
        · obtain rfl : t = 80 := by omega
          obtain ⟨g8, o8, rfl, hg8, hcs8⟩ := H1.out.eight (Hb.out)
          rw [show ((80 : Nat) : Int) = 80 from rfl]
          go_wp2
          refine rest_start (by kernel_rfl) fun v hv => ?_
          have D0 := Lib.hid (cell_at (hcs8 0 (by decide)) _ hv)
          have D1 := Lib.hid (cell_at (hcs8 1 (by decide)) _ hv)
          have D2 := Lib.hid (cell_at (hcs8 2 (by decide)) _ hv)
          have D3 := Lib.hid (cell_at (hcs8 3 (by decide)) _ hv)
          have D4 := Lib.hid (cell_at (hcs8 4 (by decide)) _ hv)
          have D5 := Lib.hid (cell_at (hcs8 5 (by decide)) _ hv)
          have D6 := Lib.hid (cell_at (hcs8 6 (by decide)) _ hv)
          have D7 := Lib.hid (cell_at (hcs8 7 (by decide)) _ hv)
          have G := Lib.hid hv
          clear hv hcs8
          refine rest_take (i := 0) rfl (by kernel_rfl) (by kernel_rfl) (by kernel_rfl) (by rfl) (fun w' hg => by go_simp; try with_reducible rfl) ?_
          try simp only [Act.put, List.setIfInBounds_toArray, List.set_cons_zero, List.set_cons_succ]
          refine rest_take (i := 1) rfl (by kernel_rfl) (by kernel_rfl) (by kernel_rfl) (by rfl) (fun w' hg => by go_simp; try with_reducible rfl) ?_
          try simp only [Act.put, List.setIfInBounds_toArray, List.set_cons_zero, List.set_cons_succ]
          refine rest_take (i := 2) rfl (by kernel_rfl) (by kernel_rfl) (by kernel_rfl) (by rfl) (fun w' hg => by have hc : w'.cell? ⟨g8, o8, none⟩ = some (.int .u64 (s.a.toNat : Int)) := cell_at D0.out w' hg; go_simp; try with_reducible rfl) ?_
          try simp only [Act.put, List.setIfInBounds_toArray, List.set_cons_zero, List.set_cons_succ]
          refine rest_take (i := 3) rfl (by kernel_rfl) (by kernel_rfl) (by kernel_rfl) (by rfl) (fun w' hg => by go_simp; try with_reducible rfl) ?_
          try simp only [Act.put, List.setIfInBounds_toArray, List.set_cons_zero, List.set_cons_succ]
          refine rest_take (i := 4) rfl (by kernel_rfl) (by kernel_rfl) (by kernel_rfl) (by rfl) (fun w' hg => by go_simp; try with_reducible rfl) ?_
          try simp only [Act.put, List.setIfInBounds_toArray, List.set_cons_zero, List.set_cons_succ]
          refine rest_take (i := 5) rfl (by kernel_rfl) (by kernel_rfl) (by kernel_rfl) (by rfl) (fun w' hg => by have hc : w'.cell? ⟨g8, o8 + 1, none⟩ = some (.int .u64 (s.b.toNat : Int)) := cell_at D1.out w' hg; go_simp; try with_reducible rfl) ?_
          try simp only [Act.put, List.setIfInBounds_toArray, List.set_cons_zero, List.set_cons_succ]
          refine rest_take (i := 6) rfl (by kernel_rfl) (by kernel_rfl) (by kernel_rfl) (by rfl) (fun w' hg => by go_simp; try with_reducible rfl) ?_
          try simp only [Act.put, List.setIfInBounds_toArray, List.set_cons_zero, List.set_cons_succ]
          refine rest_take (i := 7) rfl (by kernel_rfl) (by kernel_rfl) (by kernel_rfl) (by rfl) (fun w' hg => by go_simp; try with_reducible rfl) ?_
          try simp only [Act.put, List.setIfInBounds_toArray, List.set_cons_zero, List.set_cons_succ]
          refine rest_take (i := 8) rfl (by kernel_rfl) (by kernel_rfl) (by kernel_rfl) (by rfl) (fun w' hg => by have hc : w'.cell? ⟨g8, o8 + 2, none⟩ = some (.int .u64 (s.c.toNat : Int)) := cell_at D2.out w' hg; go_simp; try with_reducible rfl) ?_
          try simp only [Act.put, List.setIfInBounds_toArray, List.set_cons_zero, List.set_cons_succ]
          refine rest_take (i := 9) rfl (by kernel_rfl) (by kernel_rfl) (by kernel_rfl) (by rfl) (fun w' hg => by go_simp; try with_reducible rfl) ?_
          try simp only [Act.put, List.setIfInBounds_toArray, List.set_cons_zero, List.set_cons_succ]
          refine rest_take (i := 10) rfl (by kernel_rfl) (by kernel_rfl) (by kernel_rfl) (by rfl) (fun w' hg => by go_simp; try with_reducible rfl) ?_
          try simp only [Act.put, List.setIfInBounds_toArray, List.set_cons_zero, List.set_cons_succ]
          refine rest_take (i := 11) rfl (by kernel_rfl) (by kernel_rfl) (by kernel_rfl) (by rfl) (fun w' hg => by have hc : w'.cell? ⟨g8, o8 + 3, none⟩ = some (.int .u64 (s.d.toNat : Int)) := cell_at D3.out w' hg; go_simp; try with_reducible rfl) ?_
          try simp only [Act.put, List.setIfInBounds_toArray, List.set_cons_zero, List.set_cons_succ]
          refine rest_take (i := 12) rfl (by kernel_rfl) (by kernel_rfl) (by kernel_rfl) (by rfl) (fun w' hg => by go_simp; try with_reducible rfl) ?_
          try simp only [Act.put, List.setIfInBounds_toArray, List.set_cons_zero, List.set_cons_succ]
          refine rest_take (i := 13) rfl (by kernel_rfl) (by kernel_rfl) (by kernel_rfl) (by rfl) (fun w' hg => by go_simp; try with_reducible rfl) ?_
          try simp only [Act.put, List.setIfInBounds_toArray, List.set_cons_zero, List.set_cons_succ]
          refine rest_take (i := 14) rfl (by kernel_rfl) (by kernel_rfl) (by kernel_rfl) (by rfl) (fun w' hg => by have hc : w'.cell? ⟨g8, o8 + 4, none⟩ = some (.int .u64 (s.e.toNat : Int)) := cell_at D4.out w' hg; go_simp; try with_reducible rfl) ?_
          try simp only [Act.put, List.setIfInBounds_toArray, List.set_cons_zero, List.set_cons_succ]
          refine rest_take (i := 15) rfl (by kernel_rfl) (by kernel_rfl) (by kernel_rfl) (by rfl) (fun w' hg => by go_simp; try with_reducible rfl) ?_
          try simp only [Act.put, List.setIfInBounds_toArray, List.set_cons_zero, List.set_cons_succ]
          refine rest_take (i := 16) rfl (by kernel_rfl) (by kernel_rfl) (by kernel_rfl) (by rfl) (fun w' hg => by go_simp; try with_reducible rfl) ?_
          try simp only [Act.put, List.setIfInBounds_toArray, List.set_cons_zero, List.set_cons_succ]
          refine rest_take (i := 17) rfl (by kernel_rfl) (by kernel_rfl) (by kernel_rfl) (by rfl) (fun w' hg => by have hc : w'.cell? ⟨g8, o8 + 5, none⟩ = some (.int .u64 (s.f.toNat : Int)) := cell_at D5.out w' hg; go_simp; try with_reducible rfl) ?_
          try simp only [Act.put, List.setIfInBounds_toArray, List.set_cons_zero, List.set_cons_succ]
          refine rest_take (i := 18) rfl (by kernel_rfl) (by kernel_rfl) (by kernel_rfl) (by rfl) (fun w' hg => by go_simp; try with_reducible rfl) ?_
          try simp only [Act.put, List.setIfInBounds_toArray, List.set_cons_zero, List.set_cons_succ]
          refine rest_take (i := 19) rfl (by kernel_rfl) (by kernel_rfl) (by kernel_rfl) (by rfl) (fun w' hg => by go_simp; try with_reducible rfl) ?_
          try simp only [Act.put, List.setIfInBounds_toArray, List.set_cons_zero, List.set_cons_succ]
          refine rest_take (i := 20) rfl (by kernel_rfl) (by kernel_rfl) (by kernel_rfl) (by rfl) (fun w' hg => by have hc : w'.cell? ⟨g8, o8 + 6, none⟩ = some (.int .u64 (s.g.toNat : Int)) := cell_at D6.out w' hg; go_simp; try with_reducible rfl) ?_
          try simp only [Act.put, List.setIfInBounds_toArray, List.set_cons_zero, List.set_cons_succ]
          refine rest_take (i := 21) rfl (by kernel_rfl) (by kernel_rfl) (by kernel_rfl) (by rfl) (fun w' hg => by go_simp; try with_reducible rfl) ?_
          try simp only [Act.put, List.setIfInBounds_toArray, List.set_cons_zero, List.set_cons_succ]
          refine rest_take (i := 22) rfl (by kernel_rfl) (by kernel_rfl) (by kernel_rfl) (by rfl) (fun w' hg => by go_simp; try with_reducible rfl) ?_
          try simp only [Act.put, List.setIfInBounds_toArray, List.set_cons_zero, List.set_cons_succ]
          refine rest_take (i := 23) rfl (by kernel_rfl) (by kernel_rfl) (by kernel_rfl) (by rfl) (fun w' hg => by have hc : w'.cell? ⟨g8, o8 + 7, none⟩ = some (.int .u64 (s.h.toNat : Int)) := cell_at D7.out w' hg; go_simp; try with_reducible rfl) ?_
          try simp only [Act.put, List.setIfInBounds_toArray, List.set_cons_zero, List.set_cons_succ]
          refine rest_take (i := 24) rfl (by kernel_rfl) (by kernel_rfl) (by kernel_rfl) (by rfl) (fun w' hg => by go_simp; try with_reducible rfl) ?_
          try simp only [Act.put, List.setIfInBounds_toArray, List.set_cons_zero, List.set_cons_succ]
          refine rest_take (i := 25) rfl (by kernel_rfl) (by kernel_rfl) (by kernel_rfl) (by rfl) (fun w' hg => by go_simp; try with_reducible rfl) ?_
          try simp only [Act.put, List.setIfInBounds_toArray, List.set_cons_zero, List.set_cons_succ]
          refine rest_take (i := 26) rfl (by kernel_rfl) (by kernel_rfl) (by kernel_rfl) (by rfl) (fun w' hg => by go_simp; try with_reducible rfl) ?_
          try simp only [Act.put, List.setIfInBounds_toArray, List.set_cons_zero, List.set_cons_succ]
          refine rest_take (i := 27) rfl (by kernel_rfl) (by kernel_rfl) (by kernel_rfl) (by rfl) (fun w' hg => by go_simp; try with_reducible rfl) ?_
          try simp only [Act.put, List.setIfInBounds_toArray, List.set_cons_zero, List.set_cons_succ]
          refine rest_take (i := 28) rfl (by kernel_rfl) (by kernel_rfl) (by kernel_rfl) (by rfl) (fun w' hg => by go_simp; try with_reducible rfl) ?_
          try simp only [Act.put, List.setIfInBounds_toArray, List.set_cons_zero, List.set_cons_succ]
          refine rest_take (i := 29) rfl (by kernel_rfl) (by kernel_rfl) (by kernel_rfl) (by rfl) (fun w' hg => by go_simp; try with_reducible rfl) ?_
          try simp only [Act.put, List.setIfInBounds_toArray, List.set_cons_zero, List.set_cons_succ]
          refine rest_take (i := 30) rfl (by kernel_rfl) (by kernel_rfl) (by kernel_rfl) (by rfl) (fun w' hg => by go_simp; try with_reducible rfl) ?_
          try simp only [Act.put, List.setIfInBounds_toArray, List.set_cons_zero, List.set_cons_succ]
          refine rest_take (i := 31) rfl (by kernel_rfl) (by kernel_rfl) (by kernel_rfl) (by rfl) (fun w' hg => by go_simp; try with_reducible rfl) ?_
          try simp only [Act.put, List.setIfInBounds_toArray, List.set_cons_zero, List.set_cons_succ]
          refine rest_done (by kernel_rfl) ?_
          clear D0 D1 D2 D3 D4 D5 D6 D7
          go_wp2_with fail
          refine (k_any _).mono ?_
          rintro e v9 ⟨A9, c9, rfl, ho9, hb9⟩
          rw [show K.length = 80 from rfl]
          have Hw := Lib.hid (Ho.out.grow (Grown.trans G.out hb9))
          have hB := Hb.out.size
          have Hb9 := Lib.hid ((Hb.out.trans (Below.mono G.out hB)).trans (hb9.mono (by have := G.out.size; omega)))
          obtain ⟨gk, rfl, _, hck⟩ := ho9.cells (by decide)
          obtain ⟨gw, rfl, _, hcw⟩ := Hw.out.cells (by rw [wl_len]; omega)
          have Hck := Lib.hid hck
          have Hcw := Lib.hid hcw
          obtain ⟨g9, o9, e8, _, hc8⟩ := H1.out.eight Hb9.out
          simp only [Option.some.injEq, Addr.mk.injEq] at e8
          obtain ⟨rfl, rfl, _⟩ := e8
          have Hc8 := Lib.hid hc8
          clear hck hcw hc8 ho9 hb9 G Ho Hb hlt ht ht2
          go_wp2
          go_loopw [14, 15, 16, 17, 18, 19, 20, 21, 23] (fun a b c d e f g h i wr => ∃ (k : Nat) (r : St), k ≤ 80 ∧ i = .int .i64 (k : Int) ∧ a = .int .u64 (r.a.toNat : Int) ∧ b = .int .u64 (r.b.toNat : Int) ∧ c = .int .u64 (r.c.toNat : Int) ∧ d = .int .u64 (r.d.toNat : Int) ∧ e = .int .u64 (r.e.toNat : Int) ∧ f = .int .u64 (r.f.toNat : Int) ∧ g = .int .u64 (r.g.toNat : Int) ∧ h = .int .u64 (r.h.toNat : Int) ∧ Hid (r = rnds (wl l 80) s k) ∧ Hid (Grown v9 wr)) (fun _ _ _ _ _ _ _ _ i _ => 80 - (intOf i).toNat)
          case atStart => exact ⟨0, s, by omega, rfl, rfl, rfl, rfl, rfl, rfl, rfl, rfl, rfl, rfl, Grown.refl _⟩
          case round =>
            obtain ⟨k, r, hk, rfl, rfl, rfl, rfl, rfl, rfl, rfl, rfl, rfl, Hr, Hg⟩ := hrel
            by_cases hlt : k < 80
            · have Ck := Lib.hid (cell_at (Hck.out k (by rw [show K.length = 80 from rfl]; exact hlt)) _ Hg.out)
              have Cw := Lib.hid (cell_at (Hcw.out k (by rw [wl_len]; exact hlt)) _ Hg.out)
              obtain ⟨kk, hkk⟩ : ∃ kk, K.getD k 0 = kk := ⟨_, rfl⟩
              obtain ⟨ww, hww⟩ : ∃ ww, (wl l 80).getD k 0 = ww := ⟨_, rfl⟩
              rw [hkk] at Ck
              rw [hww] at Cw
              have Hn := Lib.hid (show rnd r kk ww = rnds (wl l 80) s (k + 1) by rw [rnds, ← Hr.out, hkk, hww])
              clear hkk hww
              go_wp2
              obtain ⟨z1, hz1⟩ : ∃ z, wx (wx (rr r.e 14) (rr r.e 18)) (rr r.e 41) = z := ⟨_, rfl⟩
              obtain ⟨zc, hzc⟩ : ∃ z, wx (wa r.e r.f) (wa (wn r.e) r.g) = z := ⟨_, rfl⟩
              obtain ⟨T1, hT1⟩ : ∃ z, wp (wp (wp (wp r.h z1) zc) kk) ww = z := ⟨_, rfl⟩
              obtain ⟨z0, hz0⟩ : ∃ z, wx (wx (rr r.a 28) (rr r.a 34)) (rr r.a 39) = z := ⟨_, rfl⟩
              obtain ⟨zm, hzm⟩ : ∃ z, wx (wx (wa r.a r.b) (wa r.a r.c)) (wa r.b r.c) = z := ⟨_, rfl⟩
              obtain ⟨T2, hT2⟩ : ∃ z, wp z0 zm = z := ⟨_, rfl⟩
              obtain ⟨na, hna⟩ : ∃ z, wp T1 T2 = z := ⟨_, rfl⟩
              obtain ⟨ne, hne⟩ : ∃ z, wp r.d T1 = z := ⟨_, rfl⟩
              have Hst := Lib.hid (show (⟨na, r.a, r.b, r.c, ne, r.e, r.f, r.g⟩ : St) = rnds (wl l 80) s (k + 1) by rw [← Hn.out, ← hna, ← hne, ← hT2, ← hzm, ← hz0, ← hT1, ← hzc, ← hz1]; rfl)
              have xx := i_xor
              have xa := i_addw
              have xn := i_and
              have xt := i_notw
              refine rest_start (by kernel_rfl) fun v hv => ?_
              replace Ck := Lib.hid (cell_at Ck.out _ hv)
              replace Cw := Lib.hid (cell_at Cw.out _ hv)
              replace Hg := Lib.hid (Grown.trans Hg.out hv)
              clear hv
              refine rest_take (i := 0) rfl (by kernel_rfl) (by kernel_rfl) (by kernel_rfl) (by rfl) (fun w' hg => by go_simp; try with_reducible rfl) ?_
              try simp only [Act.put, List.setIfInBounds_toArray, List.set_cons_zero, List.set_cons_succ]
              refine rest_take (i := 1) rfl (by kernel_rfl) (by kernel_rfl) (by kernel_rfl) (by rfl) (fun w' hg => by go_simp; try with_reducible rfl) ?_
              try simp only [Act.put, List.setIfInBounds_toArray, List.set_cons_zero, List.set_cons_succ]
              refine rest_take (i := 3) rfl (by kernel_rfl) (by kernel_rfl) (by kernel_rfl) (by rfl) (fun w' hg => by go_simp; try with_reducible rfl) ?_
              try simp only [Act.put, List.setIfInBounds_toArray, List.set_cons_zero, List.set_cons_succ]
              refine rest_take (i := 6) rfl (by kernel_rfl) (by kernel_rfl) (by kernel_rfl) (by rfl) (fun w' hg => by go_simp; try with_reducible rfl) ?_
              try simp only [Act.put, List.setIfInBounds_toArray, List.set_cons_zero, List.set_cons_succ]
              refine rest_take (i := 10) rfl (by kernel_rfl) (by kernel_rfl) (by kernel_rfl) (by rfl) (fun w' hg => by go_simp; try with_reducible rfl) ?_
              try simp only [Act.put, List.setIfInBounds_toArray, List.set_cons_zero, List.set_cons_succ]
              refine rest_take (i := 11) rfl (by kernel_rfl) (by kernel_rfl) (by kernel_rfl) (by rfl) (fun w' hg => by go_simp; try with_reducible rfl) ?_
              try simp only [Act.put, List.setIfInBounds_toArray, List.set_cons_zero, List.set_cons_succ]
              refine rest_take (i := 12) rfl (by kernel_rfl) (by kernel_rfl) (by kernel_rfl) (by rfl) (fun w' hg => by go_simp; try with_reducible rfl) ?_
              try simp only [Act.put, List.setIfInBounds_toArray, List.set_cons_zero, List.set_cons_succ]
              refine rest_take (i := 13) rfl (by kernel_rfl) (by kernel_rfl) (by kernel_rfl) (by rfl) (fun w' hg => by go_simp; try with_reducible rfl) ?_
              try simp only [Act.put, List.setIfInBounds_toArray, List.set_cons_zero, List.set_cons_succ]
              refine rest_take (i := 14) rfl (by kernel_rfl) (by kernel_rfl) (by kernel_rfl) (by rfl) (fun w' hg => by go_simp; try with_reducible rfl) ?_
              try simp only [Act.put, List.setIfInBounds_toArray, List.set_cons_zero, List.set_cons_succ]
              refine rest_take (i := 15) rfl (by kernel_rfl) (by kernel_rfl) (by kernel_rfl) (by rfl) (fun w' hg => by go_simp; try with_reducible rfl) ?_
              try simp only [Act.put, List.setIfInBounds_toArray, List.set_cons_zero, List.set_cons_succ]
              refine rest_take (i := 16) rfl (by kernel_rfl) (by kernel_rfl) (by kernel_rfl) (by rfl) (fun w' hg => by go_simp; try with_reducible rfl) ?_
              try simp only [Act.put, List.setIfInBounds_toArray, List.set_cons_zero, List.set_cons_succ]
              refine rest_take (i := 17) rfl (by kernel_rfl) (by kernel_rfl) (by kernel_rfl) (by rfl) (fun w' hg => by go_simp; try with_reducible rfl) ?_
              try simp only [Act.put, List.setIfInBounds_toArray, List.set_cons_zero, List.set_cons_succ]
              refine rest_take (i := 19) rfl (by kernel_rfl) (by kernel_rfl) (by kernel_rfl) (by rfl) (fun w' hg => by go_simp; try with_reducible rfl) ?_
              try simp only [Act.put, List.setIfInBounds_toArray, List.set_cons_zero, List.set_cons_succ]
              refine rest_take (i := 20) rfl (by kernel_rfl) (by kernel_rfl) (by kernel_rfl) (by rfl) (fun w' hg => by go_simp; try with_reducible rfl) ?_
              try simp only [Act.put, List.setIfInBounds_toArray, List.set_cons_zero, List.set_cons_succ]
              refine rest_take (i := 21) rfl (by kernel_rfl) (by kernel_rfl) (by kernel_rfl) (by rfl) (fun w' hg => by go_simp; try with_reducible rfl) ?_
              try simp only [Act.put, List.setIfInBounds_toArray, List.set_cons_zero, List.set_cons_succ]
              refine rest_take (i := 22) rfl (by kernel_rfl) (by kernel_rfl) (by kernel_rfl) (by rfl) (fun w' hg => by have hc := cell_at Ck.out w' hg; go_simp; try with_reducible rfl) ?_
              try simp only [Act.put, List.setIfInBounds_toArray, List.set_cons_zero, List.set_cons_succ]
              refine rest_take (i := 24) rfl (by kernel_rfl) (by kernel_rfl) (by kernel_rfl) (by rfl) (fun w' hg => by go_simp; try with_reducible rfl) ?_
              try simp only [Act.put, List.setIfInBounds_toArray, List.set_cons_zero, List.set_cons_succ]
              refine rest_take (i := 25) rfl (by kernel_rfl) (by kernel_rfl) (by kernel_rfl) (by rfl) (fun w' hg => by go_simp; try with_reducible rfl) ?_
              try simp only [Act.put, List.setIfInBounds_toArray, List.set_cons_zero, List.set_cons_succ]
              refine rest_take (i := 26) rfl (by kernel_rfl) (by kernel_rfl) (by kernel_rfl) (by rfl) (fun w' hg => by go_simp; try with_reducible rfl) ?_
              try simp only [Act.put, List.setIfInBounds_toArray, List.set_cons_zero, List.set_cons_succ]
              refine rest_take (i := 27) rfl (by kernel_rfl) (by kernel_rfl) (by kernel_rfl) (by rfl) (fun w' hg => by have hc := cell_at Cw.out w' hg; go_simp; try with_reducible rfl) ?_
              try simp only [Act.put, List.setIfInBounds_toArray, List.set_cons_zero, List.set_cons_succ]
              refine rest_lone (i := 2) rfl (by kernel_rfl) (by rfl) (fun K hK => ?_)
              go_simp
              refine (rotr_any r.e 14 _ (by omega) (by omega)).mono ?_
              rintro e v1 ⟨rfl, hv⟩
              refine hK.out _ _ hv ?_
              replace Hg := Lib.hid (Grown.trans Hg.out hv)
              clear hv
              clear hK K
              try simp only [Act.put, List.setIfInBounds_toArray, List.set_cons_zero, List.set_cons_succ]
              refine rest_lone (i := 4) rfl (by kernel_rfl) (by rfl) (fun K hK => ?_)
              go_simp
              refine (rotr_any r.e 18 _ (by omega) (by omega)).mono ?_
              rintro e v2 ⟨rfl, hv⟩
              refine hK.out _ _ hv ?_
              replace Hg := Lib.hid (Grown.trans Hg.out hv)
              clear hv
              clear hK K
              try simp only [Act.put, List.setIfInBounds_toArray, List.set_cons_zero, List.set_cons_succ]
              refine rest_take (i := 5) rfl (by kernel_rfl) (by kernel_rfl) (by kernel_rfl) (by rfl) (fun w' hg => by go_simp; try with_reducible rfl) ?_
              try simp only [Act.put, List.setIfInBounds_toArray, List.set_cons_zero, List.set_cons_succ]
              refine rest_lone (i := 7) rfl (by kernel_rfl) (by rfl) (fun K hK => ?_)
              go_simp
              refine (rotr_any r.e 41 _ (by omega) (by omega)).mono ?_
              rintro e v3 ⟨rfl, hv⟩
              refine hK.out _ _ hv ?_
              replace Hg := Lib.hid (Grown.trans Hg.out hv)
              clear hv
              clear hK K
              try simp only [Act.put, List.setIfInBounds_toArray, List.set_cons_zero, List.set_cons_succ]
              refine rest_take (i := 8) rfl (by kernel_rfl) (by kernel_rfl) (by kernel_rfl) (by rfl) (fun w' hg => by go_simp; try with_reducible rfl) ?_
              try simp only [Act.put, List.setIfInBounds_toArray, List.set_cons_zero, List.set_cons_succ]
              refine rest_take (i := 9) rfl (by kernel_rfl) (by kernel_rfl) (by kernel_rfl) (by rfl) (fun w' hg => by go_simp; try with_reducible rfl) ?_
              try simp only [Act.put, List.setIfInBounds_toArray, List.set_cons_zero, List.set_cons_succ]
              refine rest_take (i := 18) rfl (by kernel_rfl) (by kernel_rfl) (by kernel_rfl) (by rfl) (fun w' hg => by go_simp; try with_reducible rfl) ?_
              try simp only [Act.put, List.setIfInBounds_toArray, List.set_cons_zero, List.set_cons_succ]
              refine rest_take (i := 23) rfl (by kernel_rfl) (by kernel_rfl) (by kernel_rfl) (by rfl) (fun w' hg => by go_simp; try with_reducible rfl) ?_
              try simp only [Act.put, List.setIfInBounds_toArray, List.set_cons_zero, List.set_cons_succ]
              refine rest_take (i := 28) rfl (by kernel_rfl) (by kernel_rfl) (by kernel_rfl) (by rfl) (fun w' hg => by go_simp; try with_reducible rfl) ?_
              try simp only [Act.put, List.setIfInBounds_toArray, List.set_cons_zero, List.set_cons_succ]
              refine rest_take (i := 29) rfl (by kernel_rfl) (by kernel_rfl) (by kernel_rfl) (by rfl) (fun w' hg => by go_simp; try with_reducible rfl) ?_
              try simp only [Act.put, List.setIfInBounds_toArray, List.set_cons_zero, List.set_cons_succ]
              refine rest_done (by kernel_rfl) ?_
              clear Ck Cw
              go_wp2_with fail
              refine (rotr_any r.a 28 _ (by omega) (by omega)).mono ?_
              rintro e v4 ⟨rfl, hv⟩
              replace Hg := Lib.hid (Grown.trans Hg.out hv)
              clear hv
              go_wp2_with fail
              refine (rotr_any r.a 34 _ (by omega) (by omega)).mono ?_
              rintro e v5 ⟨rfl, hv⟩
              replace Hg := Lib.hid (Grown.trans Hg.out hv)
              clear hv
              go_wp2_with fail
              refine (rotr_any r.a 39 _ (by omega) (by omega)).mono ?_
              rintro e v6 ⟨rfl, hv⟩
              replace Hg := Lib.hid (Grown.trans Hg.out hv)
              clear hv
              go_wp2
              go_roundw
              case rel => exact ⟨k + 1, ⟨na, r.a, r.b, r.c, ne, r.e, r.f, r.g⟩, by omega, by go_num, rfl, rfl, rfl, rfl, rfl, rfl, rfl, rfl, Hst.out, Hg.out⟩
              case measure => simp [intOf]; omega
            · obtain rfl : k = 80 := by omega
              rw [show ((80 : Nat) : Int) = 80 from rfl]
              have Hp := Lib.hid (show plus s r = blk s l by rw [Hr.out]; rfl)
              have xa := i_addw
              have Hbb := Lib.hid (Hb9.out.trans (Below.mono Hg.out Hb9.out.size))
              have hB9 := Hbb.out.size
              go_wp2
              refine rest_start (by kernel_rfl) fun v hv => ?_
              have D0 := Lib.hid (cell_at (Hc8.out 0 (by decide)) _ (Grown.trans Hg.out hv))
              have D1 := Lib.hid (cell_at (Hc8.out 1 (by decide)) _ (Grown.trans Hg.out hv))
              have D2 := Lib.hid (cell_at (Hc8.out 2 (by decide)) _ (Grown.trans Hg.out hv))
              have D3 := Lib.hid (cell_at (Hc8.out 3 (by decide)) _ (Grown.trans Hg.out hv))
              have D4 := Lib.hid (cell_at (Hc8.out 4 (by decide)) _ (Grown.trans Hg.out hv))
              have D5 := Lib.hid (cell_at (Hc8.out 5 (by decide)) _ (Grown.trans Hg.out hv))
              have D6 := Lib.hid (cell_at (Hc8.out 6 (by decide)) _ (Grown.trans Hg.out hv))
              have D7 := Lib.hid (cell_at (Hc8.out 7 (by decide)) _ (Grown.trans Hg.out hv))
              replace Hbb := Lib.hid (Hbb.out.trans (Below.mono hv hB9))
              clear hv
              refine rest_take (i := 0) rfl (by kernel_rfl) (by kernel_rfl) (by kernel_rfl) (by rfl) (fun w' hg => by go_simp; try with_reducible rfl) ?_
              try simp only [Act.put, List.setIfInBounds_toArray, List.set_cons_zero, List.set_cons_succ]
              refine rest_take (i := 1) rfl (by kernel_rfl) (by kernel_rfl) (by kernel_rfl) (by rfl) (fun w' hg => by go_simp; try with_reducible rfl) ?_
              try simp only [Act.put, List.setIfInBounds_toArray, List.set_cons_zero, List.set_cons_succ]
              refine rest_take (i := 2) rfl (by kernel_rfl) (by kernel_rfl) (by kernel_rfl) (by rfl) (fun w' hg => by have hc : w'.cell? ⟨g8, o8, none⟩ = some (.int .u64 (s.a.toNat : Int)) := cell_at D0.out w' hg; go_simp; try with_reducible rfl) ?_
              try simp only [Act.put, List.setIfInBounds_toArray, List.set_cons_zero, List.set_cons_succ]
              refine rest_take (i := 3) rfl (by kernel_rfl) (by kernel_rfl) (by kernel_rfl) (by rfl) (fun w' hg => by go_simp; try with_reducible rfl) ?_
              try simp only [Act.put, List.setIfInBounds_toArray, List.set_cons_zero, List.set_cons_succ]
              refine rest_take (i := 4) rfl (by kernel_rfl) (by kernel_rfl) (by kernel_rfl) (by rfl) (fun w' hg => by go_simp; try with_reducible rfl) ?_
              try simp only [Act.put, List.setIfInBounds_toArray, List.set_cons_zero, List.set_cons_succ]
              refine rest_take (i := 5) rfl (by kernel_rfl) (by kernel_rfl) (by kernel_rfl) (by rfl) (fun w' hg => by go_simp; try with_reducible rfl) ?_
              try simp only [Act.put, List.setIfInBounds_toArray, List.set_cons_zero, List.set_cons_succ]
              refine rest_take (i := 6) rfl (by kernel_rfl) (by kernel_rfl) (by kernel_rfl) (by rfl) (fun w' hg => by go_simp; try with_reducible rfl) ?_
              try simp only [Act.put, List.setIfInBounds_toArray, List.set_cons_zero, List.set_cons_succ]
              refine rest_take (i := 7) rfl (by kernel_rfl) (by kernel_rfl) (by kernel_rfl) (by rfl) (fun w' hg => by have hc : w'.cell? ⟨g8, o8 + 1, none⟩ = some (.int .u64 (s.b.toNat : Int)) := cell_at D1.out w' hg; go_simp; try with_reducible rfl) ?_
              try simp only [Act.put, List.setIfInBounds_toArray, List.set_cons_zero, List.set_cons_succ]
              refine rest_take (i := 8) rfl (by kernel_rfl) (by kernel_rfl) (by kernel_rfl) (by rfl) (fun w' hg => by go_simp; try with_reducible rfl) ?_
              try simp only [Act.put, List.setIfInBounds_toArray, List.set_cons_zero, List.set_cons_succ]
              refine rest_take (i := 9) rfl (by kernel_rfl) (by kernel_rfl) (by kernel_rfl) (by rfl) (fun w' hg => by go_simp; try with_reducible rfl) ?_
              try simp only [Act.put, List.setIfInBounds_toArray, List.set_cons_zero, List.set_cons_succ]
              refine rest_take (i := 10) rfl (by kernel_rfl) (by kernel_rfl) (by kernel_rfl) (by rfl) (fun w' hg => by go_simp; try with_reducible rfl) ?_
              try simp only [Act.put, List.setIfInBounds_toArray, List.set_cons_zero, List.set_cons_succ]
              refine rest_take (i := 11) rfl (by kernel_rfl) (by kernel_rfl) (by kernel_rfl) (by rfl) (fun w' hg => by go_simp; try with_reducible rfl) ?_
              try simp only [Act.put, List.setIfInBounds_toArray, List.set_cons_zero, List.set_cons_succ]
              refine rest_take (i := 12) rfl (by kernel_rfl) (by kernel_rfl) (by kernel_rfl) (by rfl) (fun w' hg => by have hc : w'.cell? ⟨g8, o8 + 2, none⟩ = some (.int .u64 (s.c.toNat : Int)) := cell_at D2.out w' hg; go_simp; try with_reducible rfl) ?_
              try simp only [Act.put, List.setIfInBounds_toArray, List.set_cons_zero, List.set_cons_succ]
              refine rest_take (i := 13) rfl (by kernel_rfl) (by kernel_rfl) (by kernel_rfl) (by rfl) (fun w' hg => by go_simp; try with_reducible rfl) ?_
              try simp only [Act.put, List.setIfInBounds_toArray, List.set_cons_zero, List.set_cons_succ]
              refine rest_take (i := 14) rfl (by kernel_rfl) (by kernel_rfl) (by kernel_rfl) (by rfl) (fun w' hg => by go_simp; try with_reducible rfl) ?_
              try simp only [Act.put, List.setIfInBounds_toArray, List.set_cons_zero, List.set_cons_succ]
              refine rest_take (i := 15) rfl (by kernel_rfl) (by kernel_rfl) (by kernel_rfl) (by rfl) (fun w' hg => by go_simp; try with_reducible rfl) ?_
              try simp only [Act.put, List.setIfInBounds_toArray, List.set_cons_zero, List.set_cons_succ]
              refine rest_take (i := 16) rfl (by kernel_rfl) (by kernel_rfl) (by kernel_rfl) (by rfl) (fun w' hg => by go_simp; try with_reducible rfl) ?_
              try simp only [Act.put, List.setIfInBounds_toArray, List.set_cons_zero, List.set_cons_succ]
              refine rest_take (i := 17) rfl (by kernel_rfl) (by kernel_rfl) (by kernel_rfl) (by rfl) (fun w' hg => by have hc : w'.cell? ⟨g8, o8 + 3, none⟩ = some (.int .u64 (s.d.toNat : Int)) := cell_at D3.out w' hg; go_simp; try with_reducible rfl) ?_
              try simp only [Act.put, List.setIfInBounds_toArray, List.set_cons_zero, List.set_cons_succ]
              refine rest_take (i := 18) rfl (by kernel_rfl) (by kernel_rfl) (by kernel_rfl) (by rfl) (fun w' hg => by go_simp; try with_reducible rfl) ?_
              try simp only [Act.put, List.setIfInBounds_toArray, List.set_cons_zero, List.set_cons_succ]
              refine rest_take (i := 19) rfl (by kernel_rfl) (by kernel_rfl) (by kernel_rfl) (by rfl) (fun w' hg => by go_simp; try with_reducible rfl) ?_
              try simp only [Act.put, List.setIfInBounds_toArray, List.set_cons_zero, List.set_cons_succ]
              refine rest_take (i := 20) rfl (by kernel_rfl) (by kernel_rfl) (by kernel_rfl) (by rfl) (fun w' hg => by go_simp; try with_reducible rfl) ?_
              try simp only [Act.put, List.setIfInBounds_toArray, List.set_cons_zero, List.set_cons_succ]
              refine rest_take (i := 21) rfl (by kernel_rfl) (by kernel_rfl) (by kernel_rfl) (by rfl) (fun w' hg => by go_simp; try with_reducible rfl) ?_
              try simp only [Act.put, List.setIfInBounds_toArray, List.set_cons_zero, List.set_cons_succ]
              refine rest_take (i := 22) rfl (by kernel_rfl) (by kernel_rfl) (by kernel_rfl) (by rfl) (fun w' hg => by have hc : w'.cell? ⟨g8, o8 + 4, none⟩ = some (.int .u64 (s.e.toNat : Int)) := cell_at D4.out w' hg; go_simp; try with_reducible rfl) ?_
              try simp only [Act.put, List.setIfInBounds_toArray, List.set_cons_zero, List.set_cons_succ]
              refine rest_take (i := 23) rfl (by kernel_rfl) (by kernel_rfl) (by kernel_rfl) (by rfl) (fun w' hg => by go_simp; try with_reducible rfl) ?_
              try simp only [Act.put, List.setIfInBounds_toArray, List.set_cons_zero, List.set_cons_succ]
              refine rest_take (i := 24) rfl (by kernel_rfl) (by kernel_rfl) (by kernel_rfl) (by rfl) (fun w' hg => by go_simp; try with_reducible rfl) ?_
              try simp only [Act.put, List.setIfInBounds_toArray, List.set_cons_zero, List.set_cons_succ]
              refine rest_take (i := 25) rfl (by kernel_rfl) (by kernel_rfl) (by kernel_rfl) (by rfl) (fun w' hg => by go_simp; try with_reducible rfl) ?_
              try simp only [Act.put, List.setIfInBounds_toArray, List.set_cons_zero, List.set_cons_succ]
              refine rest_take (i := 26) rfl (by kernel_rfl) (by kernel_rfl) (by kernel_rfl) (by rfl) (fun w' hg => by go_simp; try with_reducible rfl) ?_
              try simp only [Act.put, List.setIfInBounds_toArray, List.set_cons_zero, List.set_cons_succ]
              refine rest_take (i := 27) rfl (by kernel_rfl) (by kernel_rfl) (by kernel_rfl) (by rfl) (fun w' hg => by have hc : w'.cell? ⟨g8, o8 + 5, none⟩ = some (.int .u64 (s.f.toNat : Int)) := cell_at D5.out w' hg; go_simp; try with_reducible rfl) ?_
              try simp only [Act.put, List.setIfInBounds_toArray, List.set_cons_zero, List.set_cons_succ]
              refine rest_take (i := 28) rfl (by kernel_rfl) (by kernel_rfl) (by kernel_rfl) (by rfl) (fun w' hg => by go_simp; try with_reducible rfl) ?_
              try simp only [Act.put, List.setIfInBounds_toArray, List.set_cons_zero, List.set_cons_succ]
              refine rest_take (i := 29) rfl (by kernel_rfl) (by kernel_rfl) (by kernel_rfl) (by rfl) (fun w' hg => by go_simp; try with_reducible rfl) ?_
              try simp only [Act.put, List.setIfInBounds_toArray, List.set_cons_zero, List.set_cons_succ]
              refine rest_take (i := 30) rfl (by kernel_rfl) (by kernel_rfl) (by kernel_rfl) (by rfl) (fun w' hg => by go_simp; try with_reducible rfl) ?_
              try simp only [Act.put, List.setIfInBounds_toArray, List.set_cons_zero, List.set_cons_succ]
              refine rest_take (i := 31) rfl (by kernel_rfl) (by kernel_rfl) (by kernel_rfl) (by rfl) (fun w' hg => by go_simp; try with_reducible rfl) ?_
              try simp only [Act.put, List.setIfInBounds_toArray, List.set_cons_zero, List.set_cons_succ]
              refine rest_take (i := 32) rfl (by kernel_rfl) (by kernel_rfl) (by kernel_rfl) (by rfl) (fun w' hg => by have hc : w'.cell? ⟨g8, o8 + 6, none⟩ = some (.int .u64 (s.g.toNat : Int)) := cell_at D6.out w' hg; go_simp; try with_reducible rfl) ?_
              try simp only [Act.put, List.setIfInBounds_toArray, List.set_cons_zero, List.set_cons_succ]
              refine rest_take (i := 33) rfl (by kernel_rfl) (by kernel_rfl) (by kernel_rfl) (by rfl) (fun w' hg => by go_simp; try with_reducible rfl) ?_
              try simp only [Act.put, List.setIfInBounds_toArray, List.set_cons_zero, List.set_cons_succ]
              refine rest_take (i := 34) rfl (by kernel_rfl) (by kernel_rfl) (by kernel_rfl) (by rfl) (fun w' hg => by go_simp; try with_reducible rfl) ?_
              try simp only [Act.put, List.setIfInBounds_toArray, List.set_cons_zero, List.set_cons_succ]
              refine rest_take (i := 35) rfl (by kernel_rfl) (by kernel_rfl) (by kernel_rfl) (by rfl) (fun w' hg => by go_simp; try with_reducible rfl) ?_
              try simp only [Act.put, List.setIfInBounds_toArray, List.set_cons_zero, List.set_cons_succ]
              refine rest_take (i := 36) rfl (by kernel_rfl) (by kernel_rfl) (by kernel_rfl) (by rfl) (fun w' hg => by go_simp; try with_reducible rfl) ?_
              try simp only [Act.put, List.setIfInBounds_toArray, List.set_cons_zero, List.set_cons_succ]
              refine rest_take (i := 37) rfl (by kernel_rfl) (by kernel_rfl) (by kernel_rfl) (by rfl) (fun w' hg => by have hc : w'.cell? ⟨g8, o8 + 7, none⟩ = some (.int .u64 (s.h.toNat : Int)) := cell_at D7.out w' hg; go_simp; try with_reducible rfl) ?_
              try simp only [Act.put, List.setIfInBounds_toArray, List.set_cons_zero, List.set_cons_succ]
              refine rest_take (i := 38) rfl (by kernel_rfl) (by kernel_rfl) (by kernel_rfl) (by rfl) (fun w' hg => by go_simp; try with_reducible rfl) ?_
              try simp only [Act.put, List.setIfInBounds_toArray, List.set_cons_zero, List.set_cons_succ]
              refine rest_take (i := 39) rfl (by kernel_rfl) (by kernel_rfl) (by kernel_rfl) (by rfl) (fun w' hg => by go_simp; try with_reducible rfl) ?_
              try simp only [Act.put, List.setIfInBounds_toArray, List.set_cons_zero, List.set_cons_succ]
              refine rest_lone (i := 40) rfl (by kernel_rfl) (by rfl) (fun K hK => ?_)
              go_simp
              refine hK.out _ _ (alloc_below _ _) ?_
              have Ho := Lib.hid (OwnW.lit v (plus s r).l (base := w.heap.size) (by have := Hbb.out.size; omega) (by show 8 ≤ _; omega))
              clear hK K
              try simp only [Act.put, List.setIfInBounds_toArray, List.set_cons_zero, List.set_cons_succ]
              refine rest_take (i := 41) rfl (by kernel_rfl) (by kernel_rfl) (by kernel_rfl) (by rfl) (fun w' hg => by go_simp; try with_reducible rfl) ?_
              try simp only [Act.put, List.setIfInBounds_toArray, List.set_cons_zero, List.set_cons_succ]
              refine rest_done (by kernel_rfl) ?_
              clear xa
              go_wp2
              go_ret
              show MakesW w (blk s l).l _ _
              rw [← Hp.out]
              refine ⟨_, _, rfl, Ho.out, Hbb.out.alloc (by have := Hbb.out.size; omega) _⟩
end Go.Proofs.YtbofikghcoalbaaDoor.S4
