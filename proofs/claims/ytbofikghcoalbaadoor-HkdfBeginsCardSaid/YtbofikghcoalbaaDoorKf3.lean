/-
  The walk of HkdfBegins.
-/
import Derived.Test.YtbofikghcoalbaaDoorKfY
namespace Go.Proofs.YtbofikghcoalbaaDoor.S6
open Go.RowKit
open S4 (Kt arr arr_size arr_one infoA rd_block u64D conv1)
open S5 (macL macL_len mac_any mac_one conv_bytes refMac_any)
set_option linter.unusedVariables false
set_option linter.unusedSimpArgs false

theorem cut_num (x : Int) : ∃ (x2 a : Nat), IntKind.i64.wrap (x.tmod 300 + 300) = (x2 : Int) ∧ (x2 : Int).tmod 300 = (a : Int) ∧ a < 300 := by
  have h1 : x.tmod 300 < 300 := Int.tmod_lt_of_pos x (by omega)
  have h2 : -300 < x.tmod 300 := Int.lt_tmod_of_pos x (by omega)
  refine ⟨(x.tmod 300 + 300).toNat, (x.tmod 300 + 300).toNat % 300, ?_, rfl, Nat.mod_lt _ (by omega)⟩
  rw [IntKind.wrap_i64]; omega

set_option maxHeartbeats 4000000 in
theorem begins_walk (A : Option Addr) (n c : Nat) (k : List UInt8) (S : ByteArray) (i : List UInt8) (q : Nat) (X Y : Int) (w : World) (hkt : Kt w) (h : Rd w w.heap.size A k) (hn : k.length = n) (hc : n ≤ c) (hnm : n ≤ 9223372036854775807)
    (hS : S = ⟨i.toArray⟩) (hq : i.length = q) (hqm : q ≤ 9223372036854775807) (hX : -9223372036854775808 ≤ X ∧ X ≤ 9223372036854775807) (hY : -9223372036854775808 ≤ Y ∧ Y ≤ 9223372036854775807) :
    Calls Tryd.prog 5 #[.slice A n c, .string S, .agg #[.int .i64 X, .int .i64 Y]] w (Says w true) := by
  have hSs : S.size = q := by rw [hS]; show i.toArray.size = q; simpa using hq
  have H := Lib.hid h
  have Hn := Lib.hid hn
  have HS := Lib.hid hS
  have Hq := Lib.hid hq
  have Hkt := Lib.hid hkt
  clear h hn hS hq hkt
  go_enter Tryd.func5, Tryd.ntmps5
  go_wp2_with fail
  have hz0 := heap_alloc_new w (.cells #[.int .i64 X, .int .i64 Y] 34)
  have hg0 := alloc_below w (.cells #[.int .i64 X, .int .i64 Y] 34)
  refine (awake _ (Hkt.out.grow hg0)).mono ?_
  rintro e w1 ⟨rfl, hb⟩
  have hz1 := (Below.block hb _ (lt_of_heap hz0)).trans hz0
  have hc0 : w1.cell? ⟨w.heap.size, 0, none⟩ = some (.int .i64 X) := cell_of_row w1 w.heap.size 0 _ 34 (0, 0) hz1
  have hc1 : w1.cell? ⟨w.heap.size, 1, none⟩ = some (.int .i64 Y) := cell_of_row w1 w.heap.size 1 _ 34 (0, 0) hz1
  have hb1 := Grown.trans hg0 hb
  have Hkt1 := Lib.hid (Hkt.out.grow hb1)
  have Hb1 := Lib.hid (show Grown w w1 from hb1)
  have H1 := Lib.hid (H.out.grow hb1)
  clear hb hb1 hg0 hz0 hz1 H Hkt
  by_cases ha : 200 < n
  · go_wp2_with fail
    refine (awake_twice w _ Hb1.out Hkt1.out).mono ?_
    rintro e w2 ⟨rfl, hb2⟩
    have Hb2 := Lib.hid hb2
    clear hb2
    go_wp2
    go_ret
    exact ⟨rfl, Hb2.out⟩
  by_cases hcc : 200 < q
  · go_wp2_with fail
    refine (awake_twice w _ Hb1.out Hkt1.out).mono ?_
    rintro e w2 ⟨rfl, hb2⟩
    have Hb2 := Lib.hid hb2
    clear hb2
    go_wp2
    go_ret
    exact ⟨rfl, Hb2.out⟩
  obtain ⟨x2, a, hx2, hx3, ha3⟩ := cut_num X
  obtain ⟨y2, b, hy2, hy3, hb3⟩ := cut_num Y
  go_wp2
  refine wp_region_still_lit (by kernel_rfl) (by kernel_rfl) ?_
  repeat still_step
  refine wpStill_nil ?_
  change Exit.then _ _ _ _ w1.drew
  have Hb2 := Lib.hid (Grown.trans Hb1.out (S4.grown_drew w1))
  have Hkt2 := Lib.hid (Hkt1.out.grow (S4.grown_drew w1))
  have H2 := Lib.hid (H1.out.grow (S4.grown_drew w1))
  generalize w1.drew = w2 at *
  clear hc0 hc1 Hb1 Hkt1 H1 hx2 hx3 hy2 hy3
  have hpq : ∃ p r : Nat, p ≤ r ∧ r < 300 ∧ ((b < a ∧ p = b ∧ r = a) ∨ (¬ b < a ∧ p = a ∧ r = b)) := by
    by_cases hab : b < a
    · exact ⟨b, a, by omega, by omega, .inl ⟨hab, rfl, rfl⟩⟩
    · exact ⟨a, b, by omega, by omega, .inr ⟨hab, rfl, rfl⟩⟩
  obtain ⟨p, r, hp, hr, hcase⟩ := hpq
  rcases hcase with ⟨hab, rfl, rfl⟩ | ⟨hab, rfl, rfl⟩
  all_goals
    go_wp2_with fail
    refine (expand_any A n c k i S q p _ Hkt2.out H2.out Hn.out hc (by omega) HS.out Hq.out (by omega) (by omega)).mono ?_
    rintro e w3 ⟨A3, rfl, hr3, hg3⟩
    have R3 := Lib.hid hr3
    have Hkt3 := Lib.hid (Hkt2.out.grow hg3)
    have H3 := Lib.hid (H2.out.grow hg3)
    have Hb3 := Lib.hid (Grown.trans Hb2.out hg3)
    clear hr3 hg3 Hkt2 H2 Hb2
    go_wp2_with fail
    refine (expand_any A n c k i S q r _ Hkt3.out H3.out Hn.out hc (by omega) HS.out Hq.out (by omega) (by omega)).mono ?_
    rintro e w4 ⟨A4, rfl, hr4, hg4⟩
    have R4 := Lib.hid ((exL_take k i p r hp) ▸ (hr4.take p))
    have R34 := Lib.hid (R3.out.grow hg4)
    have Hb4 := Lib.hid (Grown.trans Hb3.out hg4)
    clear hr4 hg4 Hkt3 H3 Hb3 R3
    obtain ⟨SP, hSP⟩ : ∃ S : ByteArray, S = ⟨(exL k i p).toArray⟩ := ⟨_, rfl⟩
    have HSP := Lib.hid hSP
    have hcut : ∀ W : World, (Instr.slice 22 (.slice A4 r r) none (some (.int .i64 (p : Int))) none).run Tryd.prog W = .ok (.slice A4 p r) W := fun W => S4.cut_to W A4 r r p hp
    clear hSP
    go_wp2
    try simp only [Act.put]
    refine rest_start (by kernel_rfl) fun v hv => ?_
    have RA := Lib.hid (R34.out.grow hv)
    have RB := Lib.hid (R4.out.grow hv)
    have G := Lib.hid (Grown.trans Hb4.out hv)
    clear hv R34 R4 Hb4
    refine rest_take (i := 0) rfl (by kernel_rfl) (by kernel_rfl) (by kernel_rfl) (by rfl) (fun w' hg => by go_simp; try with_reducible rfl) ?_
    try simp only [Act.put, List.setIfInBounds_toArray, List.set_cons_zero, List.set_cons_succ]
    refine rest_take (i := 1) rfl (by kernel_rfl) (by kernel_rfl) (by kernel_rfl) (by rfl) (fun w' hg => by go_simp; try with_reducible rfl) ?_
    try simp only [Act.put, List.setIfInBounds_toArray, List.set_cons_zero, List.set_cons_succ]
    refine rest_take (i := 2) rfl (by kernel_rfl) (by kernel_rfl) (by kernel_rfl) (by rfl) (fun w' hg => by go_simp; try with_reducible rfl) ?_
    try simp only [Act.put, List.setIfInBounds_toArray, List.set_cons_zero, List.set_cons_succ]
    refine rest_take (i := 3) rfl (by kernel_rfl) (by kernel_rfl) (by kernel_rfl) (by rfl) (fun w' hg => by go_simp; try with_reducible rfl) ?_
    try simp only [Act.put, List.setIfInBounds_toArray, List.set_cons_zero, List.set_cons_succ]
    refine rest_take (i := 4) rfl (by kernel_rfl) (by kernel_rfl) (by kernel_rfl) (by rfl) (fun w' hg => by go_simp; try with_reducible rfl) ?_
    try simp only [Act.put, List.setIfInBounds_toArray, List.set_cons_zero, List.set_cons_succ]
    refine rest_take (i := 5) rfl (by kernel_rfl) (by kernel_rfl) (by kernel_rfl) (by rfl) (fun w' hg => by go_simp; try with_reducible rfl) ?_
    try simp only [Act.put, List.setIfInBounds_toArray, List.set_cons_zero, List.set_cons_succ]
    refine rest_take (i := 6) rfl (by kernel_rfl) (by kernel_rfl) (by kernel_rfl) (by rfl) (fun w' hg => by go_simp; try with_reducible rfl) ?_
    try simp only [Act.put, List.setIfInBounds_toArray, List.set_cons_zero, List.set_cons_succ]
    refine rest_take (i := 7) rfl (by kernel_rfl) (by kernel_rfl) (by kernel_rfl) (by rfl) (fun w' hg => by go_simp; try with_reducible rfl) ?_
    try simp only [Act.put, List.setIfInBounds_toArray, List.set_cons_zero, List.set_cons_succ]
    refine rest_take (i := 8) rfl (by kernel_rfl) (by kernel_rfl) (by kernel_rfl) (by rfl) (fun w' hg => by go_simp; try with_reducible rfl) ?_
    try simp only [Act.put, List.setIfInBounds_toArray, List.set_cons_zero, List.set_cons_succ]
    refine rest_take (i := 9) rfl (by kernel_rfl) (by kernel_rfl) (by kernel_rfl) (by rfl) (fun w' hg => by go_simp; try with_reducible rfl) ?_
    try simp only [Act.put, List.setIfInBounds_toArray, List.set_cons_zero, List.set_cons_succ]
    refine rest_take (i := 10) rfl (by kernel_rfl) (by kernel_rfl) (by kernel_rfl) (by rfl) (fun w' hg => by go_simp; try with_reducible rfl) ?_
    try simp only [Act.put, List.setIfInBounds_toArray, List.set_cons_zero, List.set_cons_succ]
    refine rest_take (i := 11) rfl (by kernel_rfl) (by kernel_rfl) (by kernel_rfl) (by rfl) (fun w' hg => by go_simp; try with_reducible rfl) ?_
    try simp only [Act.put, List.setIfInBounds_toArray, List.set_cons_zero, List.set_cons_succ]
    refine rest_take (i := 12) rfl (by kernel_rfl) (by kernel_rfl) (by kernel_rfl) (by rfl) (fun w' hg => by have hcv := conv_at RA.out (exL_len k i p) p w' hg; rw [← HSP.out] at hcv; go_simp; try with_reducible rfl) ?_
    try simp only [Act.put, List.setIfInBounds_toArray, List.set_cons_zero, List.set_cons_succ]
    refine rest_take (i := 13) rfl (by kernel_rfl) (by kernel_rfl) (by kernel_rfl) (by rfl) (fun w' hg => by go_simp; try with_reducible rfl) ?_
    try simp only [Act.put, List.setIfInBounds_toArray, List.set_cons_zero, List.set_cons_succ]
    refine rest_take (i := 14) rfl (by kernel_rfl) (by kernel_rfl) (by kernel_rfl) (by rfl) (fun w' hg => by go_simp; try with_reducible rfl) ?_
    try simp only [Act.put, List.setIfInBounds_toArray, List.set_cons_zero, List.set_cons_succ]
    refine rest_take (i := 15) rfl (by kernel_rfl) (by kernel_rfl) (by kernel_rfl) (by rfl) (fun w' hg => by go_simp; try with_reducible rfl) ?_
    try simp only [Act.put, List.setIfInBounds_toArray, List.set_cons_zero, List.set_cons_succ]
    refine rest_take (i := 16) rfl (by kernel_rfl) (by kernel_rfl) (by kernel_rfl) (by rfl) (fun w' hg => by have hcv := conv_at RB.out (exL_len k i p) r w' hg; rw [← HSP.out] at hcv; go_simp; try with_reducible rfl) ?_
    try simp only [Act.put, List.setIfInBounds_toArray, List.set_cons_zero, List.set_cons_succ]
    refine rest_take (i := 17) rfl (by kernel_rfl) (by kernel_rfl) (by kernel_rfl) (by rfl) (fun w' hg => by go_simp; try with_reducible rfl) ?_
    try simp only [Act.put, List.setIfInBounds_toArray, List.set_cons_zero, List.set_cons_succ]
    refine rest_take (i := 18) rfl (by kernel_rfl) (by kernel_rfl) (by kernel_rfl) (by rfl) (fun w' hg => by go_simp; try with_reducible rfl) ?_
    try simp only [Act.put, List.setIfInBounds_toArray, List.set_cons_zero, List.set_cons_succ]
    refine rest_take (i := 19) rfl (by kernel_rfl) (by kernel_rfl) (by kernel_rfl) (by rfl) (fun w' hg => by go_simp; try with_reducible rfl) ?_
    try simp only [Act.put, List.setIfInBounds_toArray, List.set_cons_zero, List.set_cons_succ]
    refine rest_done (by kernel_rfl) ?_
    go_wp2
    go_ret
    exact ⟨rfl, G.out⟩
end Go.Proofs.YtbofikghcoalbaaDoor.S6
