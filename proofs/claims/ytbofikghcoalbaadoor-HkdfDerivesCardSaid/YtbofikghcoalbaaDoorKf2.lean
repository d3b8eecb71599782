/-
  The walk of HkdfDerives.
-/
import Derived.Test.YtbofikghcoalbaaDoorKfY
namespace Go.Proofs.YtbofikghcoalbaaDoor.S6
open Go.RowKit
open S4 (Kt arr arr_size arr_one infoA rd_block u64D conv1)
open S5 (macL macL_len mac_any mac_one conv_bytes refMac_any)
set_option linter.unusedVariables false
set_option linter.unusedSimpArgs false

set_option maxHeartbeats 4000000 in
theorem derives_walk (A : Option Addr) (n c : Nat) (k : List UInt8) (B : Option Addr) (m d : Nat) (T : List UInt8) (x : UInt8) (w : World) (hkt : Kt w) (h : Rd w w.heap.size A k) (hn : k.length = n) (hc : n ≤ c) (hnm : n ≤ 9223372036854775807)
    (h2 : Rd w w.heap.size B T) (hm : T.length = m) (hd : m ≤ d) (hmm : m ≤ 9223372036854775807) :
    Calls Tryd.prog 4 #[.slice A n c, .slice B m d, .int .u8 (x.toNat : Int)] w (Says w true) := by
  have H := Lib.hid h
  have Hn := Lib.hid hn
  have H2 := Lib.hid h2
  have Hm := Lib.hid hm
  have Hkt := Lib.hid hkt
  clear h hn h2 hm hkt
  go_enter Tryd.func4, Tryd.ntmps4
  go_wp2_with fail
  refine (awake _ Hkt.out).mono ?_
  rintro e w1 ⟨rfl, hb⟩
  have Hkt1 := Lib.hid (Hkt.out.grow hb)
  have Hb1 := Lib.hid (show Grown w w1 from hb)
  have H1 := Lib.hid (H.out.grow hb)
  have H21 := Lib.hid (H2.out.grow hb)
  clear hb H H2 Hkt
  have hx := u8_lt x
  by_cases ha : 200 < n
  · go_wp2_with fail
    refine (awake_twice w _ Hb1.out Hkt1.out).mono ?_
    rintro e w2 ⟨rfl, hb2⟩
    have Hb2 := Lib.hid hb2
    clear hb2
    go_wp2
    go_ret
    exact ⟨rfl, Hb2.out⟩
  by_cases hcc : 200 < m
  · go_wp2_with fail
    refine (awake_twice w _ Hb1.out Hkt1.out).mono ?_
    rintro e w2 ⟨rfl, hb2⟩
    have Hb2 := Lib.hid hb2
    clear hb2
    go_wp2
    go_ret
    exact ⟨rfl, Hb2.out⟩
  go_wp2_with fail
  refine (derive_any A n c k x B m d T 64 _ Hkt1.out H1.out Hn.out hc (by omega) H21.out Hm.out hd (by omega) (by omega)).mono ?_
  rintro e w2 ⟨A2, rfl, hr2, hg2⟩
  have R2 := Lib.hid hr2
  have Hb2 := Lib.hid (Grown.trans Hb1.out hg2)
  have H2 := Lib.hid (H1.out.grow hg2)
  have H22 := Lib.hid (H21.out.grow hg2)
  clear hr2 hg2 Hb1 H1 H21 Hkt1
  obtain ⟨SP, hSP⟩ : ∃ S : ByteArray, S = ⟨(exL (macL [] k) ([116, 117, 114, 110, 107, 101, 121, 0, x] ++ T) 64).toArray⟩ := ⟨_, rfl⟩
  have HSP := Lib.hid hSP
  clear hSP
  go_wp2
  try simp only [Act.put]
  refine rest_start (by kernel_rfl) fun v hv => ?_
  have RA := Lib.hid (R2.out.grow hv)
  have HA := Lib.hid (H2.out.grow hv)
  have HB := Lib.hid (H22.out.grow hv)
  have G := Lib.hid (Grown.trans Hb2.out hv)
  clear hv R2 H2 H22 Hb2
  refine rest_take (i := 0) rfl (by kernel_rfl) (by kernel_rfl) (by kernel_rfl) (by rfl) (fun w' hg => by go_simp; try with_reducible rfl) ?_
  try simp only [Act.put, List.setIfInBounds_toArray, List.set_cons_zero, List.set_cons_succ]
  refine rest_take (i := 1) rfl (by kernel_rfl) (by kernel_rfl) (by kernel_rfl) (by rfl) (fun w' hg => by go_simp; try with_reducible rfl) ?_
  try simp only [Act.put, List.setIfInBounds_toArray, List.set_cons_zero, List.set_cons_succ]
  refine rest_take (i := 2) rfl (by kernel_rfl) (by kernel_rfl) (by kernel_rfl) (by rfl) (fun w' hg => by go_simp; try with_reducible rfl) ?_
  try simp only [Act.put, List.setIfInBounds_toArray, List.set_cons_zero, List.set_cons_succ]
  refine rest_take (i := 3) rfl (by kernel_rfl) (by kernel_rfl) (by kernel_rfl) (by rfl) (fun w' hg => by have hcv := conv_at RA.out (exL_len _ _ 64) 64 w' hg; rw [← HSP.out] at hcv; go_simp; try with_reducible rfl) ?_
  try simp only [Act.put, List.setIfInBounds_toArray, List.set_cons_zero, List.set_cons_succ]
  refine rest_take (i := 4) rfl (by kernel_rfl) (by kernel_rfl) (by kernel_rfl) (by rfl) (fun w' hg => by go_simp; try with_reducible rfl) ?_
  try simp only [Act.put, List.setIfInBounds_toArray, List.set_cons_zero, List.set_cons_succ]
  refine rest_take (i := 5) rfl (by kernel_rfl) (by kernel_rfl) (by kernel_rfl) (by rfl) (fun w' hg => by go_simp; try with_reducible rfl) ?_
  try simp only [Act.put, List.setIfInBounds_toArray, List.set_cons_zero, List.set_cons_succ]
  refine rest_take (i := 6) rfl (by kernel_rfl) (by kernel_rfl) (by kernel_rfl) (by rfl) (fun w' hg => by go_simp; try with_reducible rfl) ?_
  try simp only [Act.put, List.setIfInBounds_toArray, List.set_cons_zero, List.set_cons_succ]
  refine rest_lone (i := 7) rfl (by kernel_rfl) (by rfl) (fun K hK => ?_)
  go_simp
  refine (refDerive_any A n c k x B m d T 64 _ HA.out Hn.out (by omega) HB.out Hm.out (by omega) (by omega)).mono ?_
  rintro e v1 ⟨rfl, hb⟩
  rw [← HSP.out]
  refine hK.out _ _ hb ?_
  clear hK K
  replace G := Lib.hid (Grown.trans G.out hb)
  clear hb RA HA HB
  try simp only [Act.put, List.setIfInBounds_toArray, List.set_cons_zero, List.set_cons_succ]
  refine rest_take (i := 8) rfl (by kernel_rfl) (by kernel_rfl) (by kernel_rfl) (by rfl) (fun w' hg => by go_simp; try with_reducible rfl) ?_
  try simp only [Act.put, List.setIfInBounds_toArray, List.set_cons_zero, List.set_cons_succ]
  refine rest_take (i := 9) rfl (by kernel_rfl) (by kernel_rfl) (by kernel_rfl) (by rfl) (fun w' hg => by go_simp; try with_reducible rfl) ?_
  try simp only [Act.put, List.setIfInBounds_toArray, List.set_cons_zero, List.set_cons_succ]
  refine rest_take (i := 10) rfl (by kernel_rfl) (by kernel_rfl) (by kernel_rfl) (by rfl) (fun w' hg => by go_simp; try with_reducible rfl) ?_
  try simp only [Act.put, List.setIfInBounds_toArray, List.set_cons_zero, List.set_cons_succ]
  refine rest_done (by kernel_rfl) ?_
  go_wp2
  go_ret
  exact ⟨rfl, G.out⟩
end Go.Proofs.YtbofikghcoalbaaDoor.S6
