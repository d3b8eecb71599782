/-
  CtsTexts: the walk, out of the program's contracts.
-/
import Derived.Test.YtgfmdjagggnfbaaCwA
namespace Go.Proofs.Ytgfmdjagggnfbaa.S9
open Go.RowKit
open Go.Proofs.Ytgfmdjagggnfbaa.S7 hiding intOf
open Go.Proofs.Ytgfmdjagggnfbaa.S8 (Br sz16 on16 wr64 xorL xorL_len xor_xorL z16)
set_option linter.unusedVariables false
set_option linter.unusedSimpArgs false

def InT (w v : World) (k : List UInt8) (B : Option Addr) (b : List UInt8) : Prop := Grown w v ∧ Bk v w.heap.size 22 k ∧ Rd v v.heap.size B b
theorem InT.grow {w v v' : World} {k b : List UInt8} {B : Option Addr} (h : InT w v k B b) (hg : Grown v v') : InT w v' k B b := ⟨Grown.trans h.1 hg, h.2.1.grow hg, h.2.2.grow hg⟩
theorem InT.start (w : World) (k b : List UInt8) (B : Option Addr) (hB : Rd w w.heap.size B b) : InT w (w.alloc (.cells (bvs k).toArray 22)) k B b := ⟨alloc_below w _, Bk.new w _ _, hB.grow (alloc_below w _)⟩
theorem InT.key {w v : World} {k b : List UInt8} {B : Option Addr} (h : InT w v k B b) : Rd v v.heap.size (some ⟨w.heap.size, 0, none⟩) k := bk_all h.2.1 h.2.1.lt

set_option maxHeartbeats 4000000 in
set_option maxRecDepth 20000 in
theorem texts_mid (HE : EncFit) (k : List UInt8) (B : Option Addr) (bl d : Nat) (w : World) (h1 : 90 < bl) (h2 : bl ≤ 256) :
    Calls Try.prog 3 #[.agg (bvs k).toArray, .slice B bl d] w (Says w true) := by
  have he := Lib.hid HE
  clear HE
  have b1 : (90 : Int) < (bl : Int) := by omega
  have b2 : (bl : Int) ≤ 256 := by omega
  have H0 := Lib.hid (alloc_below w (.cells (bvs k).toArray 22))
  go_enter Try.func3, Try.ntmps3
  go_wp2_with fail
  generalize w.alloc _ = w0 at H0 ⊢
  refine (awakeC he.out w0).mono ?_
  rintro e w1 ⟨rfl, hg1⟩
  have G1 := Lib.hid (show Grown w w1 from Grown.trans H0.out hg1)
  clear hg1 H0
  go_wp2_with fail
  refine (awakeC_twice he.out w w1 G1.out).mono ?_
  rintro e w2 ⟨rfl, hg2⟩
  have G2 := Lib.hid hg2
  clear hg2 G1
  go_wp2
  go_ret
  exact ⟨rfl, G2.out⟩
set_option maxHeartbeats 4000000 in
set_option maxRecDepth 20000 in
theorem texts_small (HE : EncFit) (HEB : EncBad) (HDB : DecBad) (k : List UInt8) (B : Option Addr) (bl d : Nat) (b : List UInt8) (w : World) (hk : k.length = 32) (hb : b.length = bl) (hbd : bl ≤ d) (hd : d ≤ maxLen) (hB : Rd w w.heap.size B b) (h1 : bl < 16) :
    Calls Try.prog 3 #[.agg (bvs k).toArray, .slice B bl d] w (Says w true) := by
  have he := Lib.hid HE
  have HK := Lib.hid hk
  have H0 := Lib.hid (InT.start w k b B hB)
  have CE := Lib.hid (fun G W v (h : Ci v G W) (h2 : Rd v v.heap.size B b) => HEB G W B bl d b v h hb hbd hd h2 (Or.inl h1))
  have CD := Lib.hid (fun G W v (h : Ci v G W) (h2 : Rd v v.heap.size B b) => HDB G W B bl d b v h hb hbd hd h2 (Or.inl h1))
  have b1 : ¬ (90 : Int) < (bl : Int) := by omega
  have b2 : (bl : Int) < 16 := by omega
  clear HE HEB HDB hk hb hbd hd hB
  go_enter Try.func3, Try.ntmps3
  go_wp2_with fail
  generalize w.alloc _ = w0 at H0 ⊢
  refine (awakeC he.out w0).mono ?_
  rintro e w1 ⟨rfl, hg1⟩
  have H1 := Lib.hid (H0.out.grow hg1)
  clear hg1 H0
  go_wp2_with fail
  refine (new_any (some ⟨w.heap.size, 0, none⟩) 32 k HK.out (by omega) _ H1.out.key).mono ?_
  rintro e w2 ⟨G, rfl, _, hCi, hg2⟩
  have H2 := Lib.hid (H1.out.grow hg2)
  have C2 := Lib.hid hCi
  clear hg2 hCi H1
  go_wp2_with fail
  refine (CE.out G _ _ C2.out H2.out.2.2).mono ?_
  rintro e w3 ⟨A3, c3, rfl, hg3⟩
  have H3 := Lib.hid (H2.out.grow hg3)
  have C3 := Lib.hid (C2.out.grow hg3)
  clear hg3 H2 C2
  go_wp2_with fail
  refine (CD.out G _ _ C3.out H3.out.2.2).mono ?_
  rintro e w4 ⟨A4, c4, rfl, hg4⟩
  have H4 := Lib.hid (H3.out.grow hg4)
  clear hg4 H3 C3
  go_wp2
  go_ret
  exact ⟨rfl, H4.out.1⟩
set_option maxHeartbeats 4000000 in
set_option maxRecDepth 20000 in
theorem texts_great (HE : EncFit) (HEB : EncBad) (HDB : DecBad) (k : List UInt8) (B : Option Addr) (bl d : Nat) (b : List UInt8) (w : World) (hk : k.length = 32) (hb : b.length = bl) (hbd : bl ≤ d) (hd : d ≤ maxLen) (hB : Rd w w.heap.size B b) (h1 : 256 < bl) :
    Calls Try.prog 3 #[.agg (bvs k).toArray, .slice B bl d] w (Says w true) := by
  have he := Lib.hid HE
  have HK := Lib.hid hk
  have H0 := Lib.hid (InT.start w k b B hB)
  have CE := Lib.hid (fun G W v (h : Ci v G W) (h2 : Rd v v.heap.size B b) => HEB G W B bl d b v h hb hbd hd h2 (Or.inr h1))
  have CD := Lib.hid (fun G W v (h : Ci v G W) (h2 : Rd v v.heap.size B b) => HDB G W B bl d b v h hb hbd hd h2 (Or.inr h1))
  have b1 : (90 : Int) < (bl : Int) := by omega
  have b2 : ¬ (bl : Int) ≤ 256 := by omega
  have b3 : ¬ (bl : Int) < 16 := by omega
  have b4 : (256 : Int) < (bl : Int) := by omega
  clear HE HEB HDB hk hb hbd hd hB
  go_enter Try.func3, Try.ntmps3
  go_wp2_with fail
  generalize w.alloc _ = w0 at H0 ⊢
  refine (awakeC he.out w0).mono ?_
  rintro e w1 ⟨rfl, hg1⟩
  have H1 := Lib.hid (H0.out.grow hg1)
  clear hg1 H0
  go_wp2_with fail
  refine (new_any (some ⟨w.heap.size, 0, none⟩) 32 k HK.out (by omega) _ H1.out.key).mono ?_
  rintro e w2 ⟨G, rfl, _, hCi, hg2⟩
  have H2 := Lib.hid (H1.out.grow hg2)
  have C2 := Lib.hid hCi
  clear hg2 hCi H1
  go_wp2_with fail
  refine (CE.out G _ _ C2.out H2.out.2.2).mono ?_
  rintro e w3 ⟨A3, c3, rfl, hg3⟩
  have H3 := Lib.hid (H2.out.grow hg3)
  have C3 := Lib.hid (C2.out.grow hg3)
  clear hg3 H2 C2
  go_wp2_with fail
  refine (CD.out G _ _ C3.out H3.out.2.2).mono ?_
  rintro e w4 ⟨A4, c4, rfl, hg4⟩
  have H4 := Lib.hid (H3.out.grow hg4)
  clear hg4 H3 C3
  go_wp2
  go_ret
  exact ⟨rfl, H4.out.1⟩
set_option maxHeartbeats 4000000 in
set_option maxRecDepth 20000 in
theorem texts_ok (HE : EncFit) (HD : DecFit) (HN : EncNil) (k : List UInt8) (B : Option Addr) (bl d : Nat) (b : List UInt8) (w : World) (hk : k.length = 32) (hb : b.length = bl) (hbd : bl ≤ d) (hd : d ≤ maxLen) (hB : Rd w w.heap.size B b) (h1 : 16 ≤ bl) (h2 : bl ≤ 90) :
    Calls Try.prog 3 #[.agg (bvs k).toArray, .slice B bl d] w (Says w true) := by
  have he := Lib.hid HE
  have HK := Lib.hid hk
  have H0 := Lib.hid (InT.start w k b B hB)
  have CE := Lib.hid (fun G W (B2 : Option Addr) (d2 : Nat) (b2 : List UInt8) v (h : Ci v G W) (hb2 : b2.length = bl) (hbd2 : bl ≤ d2) (hd2 : d2 ≤ maxLen) (hr : Rd v v.heap.size B2 b2) => HE G W B2 bl d2 b2 v h hb2 hbd2 hd2 hr h1 (by omega))
  have CD := Lib.hid (fun G W (B2 : Option Addr) (d2 : Nat) (b2 : List UInt8) v (h : Ci v G W) (hb2 : b2.length = bl) (hbd2 : bl ≤ d2) (hd2 : d2 ≤ maxLen) (hr : Rd v v.heap.size B2 b2) => HD G W B2 bl d2 b2 v h hb2 hbd2 hd2 hr h1 (by omega))
  have CN := Lib.hid (fun v (hr : Rd v v.heap.size B b) => HN B bl d b v hb hbd hd hr)
  have CX := Lib.hid (fun (A : Option Addr) v (h : Rd v v.heap.size A k) (hr : Rd v v.heap.size B b) => refCts_any A B 32 d bl k b v hk h hb h1 (by omega) hr)
  have Hb := Lib.hid hb
  have Hbd := Lib.hid hbd
  have Hd := Lib.hid hd
  obtain ⟨W, hW⟩ : ∃ W, W = keysL k := ⟨_, rfl⟩
  have HW := Lib.hid hW
  obtain ⟨X, hX⟩ : ∃ X, X = ctsE W b := ⟨_, rfl⟩
  obtain ⟨Y, hY⟩ : ∃ Y, Y = ctsD W b := ⟨_, rfl⟩
  have HXY := Lib.hid (show ctsD W X = b by rw [hX]; exact ctsD_ctsE W b (by omega))
  have HYX := Lib.hid (show ctsE W Y = b by rw [hY]; exact ctsE_ctsD W b (by omega))
  have HXe := Lib.hid hX
  have HYe := Lib.hid hY
  obtain ⟨SX, hSX⟩ : ∃ S : ByteArray, S = ⟨X.toArray⟩ := ⟨_, rfl⟩
  obtain ⟨SB, hSB⟩ : ∃ S : ByteArray, S = ⟨b.toArray⟩ := ⟨_, rfl⟩
  have HSX := Lib.hid hSX
  have HSB := Lib.hid hSB
  have b1 : ¬ (90 : Int) < (bl : Int) := by omega
  have b2 : ¬ (bl : Int) < 16 := by omega
  have b3 : ¬ (256 : Int) < (bl : Int) := by omega
  clear HE HD HN hk hb hbd hd hB hW hX hY hSX hSB
  go_enter Try.func3, Try.ntmps3
  go_wp2_with fail
  generalize w.alloc _ = w0 at H0 ⊢
  refine (awakeC he.out w0).mono ?_
  rintro e w1 ⟨rfl, hg1⟩
  have H1 := Lib.hid (H0.out.grow hg1)
  clear hg1 H0
  go_wp2_with fail
  refine (new_any (some ⟨w.heap.size, 0, none⟩) 32 k HK.out (by omega) _ H1.out.key).mono ?_
  rintro e w2 ⟨G, rfl, _, hCi, hg2⟩
  rw [← HW.out] at hCi
  have H2 := Lib.hid (H1.out.grow hg2)
  have C2 := Lib.hid hCi
  clear hg2 hCi H1
  go_wp2_with fail
  refine (CE.out G W B d b _ C2.out Hb.out Hbd.out Hd.out H2.out.2.2).mono ?_
  rintro e w3 ⟨A3, c3, rfl, hl3, hc3, hm3, hr3, hg3⟩
  rw [← HXe.out] at hl3 hr3
  have H3 := Lib.hid (H2.out.grow hg3)
  have C3 := Lib.hid (C2.out.grow hg3)
  have R3 := Lib.hid hr3
  have L3 := Lib.hid hl3
  have M3 := Lib.hid hm3
  have N3 := Lib.hid hc3
  clear hg3 H2 C2 hr3 hl3 hm3 hc3
  go_wp2_with fail
  refine (CD.out G W B d b _ C3.out Hb.out Hbd.out Hd.out H3.out.2.2).mono ?_
  rintro e w4 ⟨A4, c4, rfl, hl4, hc4, hm4, hr4, hg4⟩
  rw [← HYe.out] at hl4 hr4
  have H4 := Lib.hid (H3.out.grow hg4)
  have C4 := Lib.hid (C3.out.grow hg4)
  replace R3 := Lib.hid (R3.out.grow hg4)
  have R4 := Lib.hid hr4
  have L4 := Lib.hid hl4
  have M4 := Lib.hid hm4
  have N4 := Lib.hid hc4
  clear hg4 H3 C3 hr4 hl4 hm4 hc4
  go_wp2_with fail
  refine (CD.out G W A3 c3 X _ C4.out L3.out N3.out M3.out R3.out).mono ?_
  rintro e w5 ⟨A5, c5, rfl, hl5, hc5, hm5, hr5, hg5⟩
  rw [HXY.out] at hl5 hr5
  have H5 := Lib.hid (H4.out.grow hg5)
  have C5 := Lib.hid (C4.out.grow hg5)
  replace R3 := Lib.hid (R3.out.grow hg5)
  replace R4 := Lib.hid (R4.out.grow hg5)
  have R5 := Lib.hid hr5
  clear hg5 H4 C4 hr5 hl5 hm5 hc5
  go_wp2_with fail
  refine (CE.out G W A4 c4 Y _ C5.out L4.out N4.out M4.out R4.out).mono ?_
  rintro e w6 ⟨A6, c6, rfl, hl6, hc6, hm6, hr6, hg6⟩
  rw [HYX.out] at hl6 hr6
  have H6 := Lib.hid (H5.out.grow hg6)
  replace R3 := Lib.hid (R3.out.grow hg6)
  replace R5 := Lib.hid (R5.out.grow hg6)
  have R6 := Lib.hid hr6
  clear hg6 H5 C5 R4 hr6 hl6 hm6 hc6
  go_wp2_with fail
  refine (CN.out _ H6.out.2.2).mono ?_
  rintro e w7 ⟨A7, c7, rfl, hg7⟩
  have H7 := Lib.hid (H6.out.grow hg7)
  replace R3 := Lib.hid (R3.out.grow hg7)
  replace R5 := Lib.hid (R5.out.grow hg7)
  replace R6 := Lib.hid (R6.out.grow hg7)
  clear hg7 H6
  go_wp2
  try simp only [Act.put]
  refine rest_start (by kernel_rfl) fun v hv => ?_
  have H8 := Lib.hid (H7.out.grow hv)
  replace R3 := Lib.hid (R3.out.grow hv)
  replace R5 := Lib.hid (R5.out.grow hv)
  replace R6 := Lib.hid (R6.out.grow hv)
  clear hv H7
  refine rest_take (i := 0) rfl (by kernel_rfl) (by kernel_rfl) (by kernel_rfl) (by rfl) (fun w' hg => by go_simp; try with_reducible rfl) ?_
  try simp only [Act.put, List.setIfInBounds_toArray, List.set_cons_zero, List.set_cons_succ]
  refine rest_take (i := 1) rfl (by kernel_rfl) (by kernel_rfl) (by kernel_rfl) (by rfl) (fun w' hg => by go_simp; try with_reducible rfl) ?_
  try simp only [Act.put, List.setIfInBounds_toArray, List.set_cons_zero, List.set_cons_succ]
  refine rest_take (i := 2) rfl (by kernel_rfl) (by kernel_rfl) (by kernel_rfl) (by rfl) (fun w' hg => by go_simp; try with_reducible rfl) ?_
  try simp only [Act.put, List.setIfInBounds_toArray, List.set_cons_zero, List.set_cons_succ]
  refine rest_take (i := 3) rfl (by kernel_rfl) (by kernel_rfl) (by kernel_rfl) (by rfl) (fun w' hg => by go_simp; try with_reducible rfl) ?_
  try simp only [Act.put, List.setIfInBounds_toArray, List.set_cons_zero, List.set_cons_succ]
  refine rest_take (i := 4) rfl (by kernel_rfl) (by kernel_rfl) (by kernel_rfl) (by rfl) (fun w' hg => by go_simp; try with_reducible rfl) ?_
  try simp only [Act.put, List.setIfInBounds_toArray, List.set_cons_zero, List.set_cons_succ]
  refine rest_take (i := 5) rfl (by kernel_rfl) (by kernel_rfl) (by kernel_rfl) (by rfl) (fun w' hg => by go_simp; try with_reducible rfl) ?_
  try simp only [Act.put, List.setIfInBounds_toArray, List.set_cons_zero, List.set_cons_succ]
  refine rest_take (i := 6) rfl (by kernel_rfl) (by kernel_rfl) (by kernel_rfl) (by rfl) (fun w' hg => by go_simp; try with_reducible rfl) ?_
  try simp only [Act.put, List.setIfInBounds_toArray, List.set_cons_zero, List.set_cons_succ]
  refine rest_take (i := 7) rfl (by kernel_rfl) (by kernel_rfl) (by kernel_rfl) (by rfl) (fun w' hg => by go_simp; try with_reducible rfl) ?_
  try simp only [Act.put, List.setIfInBounds_toArray, List.set_cons_zero, List.set_cons_succ]
  refine rest_take (i := 8) rfl (by kernel_rfl) (by kernel_rfl) (by kernel_rfl) (by rfl) (fun w' hg => by go_simp; try with_reducible rfl) ?_
  try simp only [Act.put, List.setIfInBounds_toArray, List.set_cons_zero, List.set_cons_succ]
  refine rest_take (i := 9) rfl (by kernel_rfl) (by kernel_rfl) (by kernel_rfl) (by rfl) (fun w' hg => by go_simp; try with_reducible rfl) ?_
  try simp only [Act.put, List.setIfInBounds_toArray, List.set_cons_zero, List.set_cons_succ]
  refine rest_take (i := 10) rfl (by kernel_rfl) (by kernel_rfl) (by kernel_rfl) (by rfl) (fun w' hg => by go_simp; try with_reducible rfl) ?_
  try simp only [Act.put, List.setIfInBounds_toArray, List.set_cons_zero, List.set_cons_succ]
  refine rest_take (i := 11) rfl (by kernel_rfl) (by kernel_rfl) (by kernel_rfl) (by rfl) (fun w' hg => by go_simp; try with_reducible rfl) ?_
  try simp only [Act.put, List.setIfInBounds_toArray, List.set_cons_zero, List.set_cons_succ]
  refine rest_take (i := 12) rfl (by kernel_rfl) (by kernel_rfl) (by kernel_rfl) (by rfl) (fun w' hg => by go_simp; try with_reducible rfl) ?_
  try simp only [Act.put, List.setIfInBounds_toArray, List.set_cons_zero, List.set_cons_succ]
  refine rest_take (i := 13) rfl (by kernel_rfl) (by kernel_rfl) (by kernel_rfl) (by rfl) (fun w' hg => by go_simp; try with_reducible rfl) ?_
  try simp only [Act.put, List.setIfInBounds_toArray, List.set_cons_zero, List.set_cons_succ]
  refine rest_take (i := 14) rfl (by kernel_rfl) (by kernel_rfl) (by kernel_rfl) (by rfl) (fun w' hg => by go_simp; try with_reducible rfl) ?_
  try simp only [Act.put, List.setIfInBounds_toArray, List.set_cons_zero, List.set_cons_succ]
  refine rest_take (i := 15) rfl (by kernel_rfl) (by kernel_rfl) (by kernel_rfl) (by rfl) (fun w' hg => by go_simp; try with_reducible rfl) ?_
  try simp only [Act.put, List.setIfInBounds_toArray, List.set_cons_zero, List.set_cons_succ]
  refine rest_take (i := 16) rfl (by kernel_rfl) (by kernel_rfl) (by kernel_rfl) (by rfl) (fun w' hg => by go_simp; try with_reducible rfl) ?_
  try simp only [Act.put, List.setIfInBounds_toArray, List.set_cons_zero, List.set_cons_succ]
  refine rest_take (i := 17) rfl (by kernel_rfl) (by kernel_rfl) (by kernel_rfl) (by rfl) (fun w' hg => by go_simp; try with_reducible rfl) ?_
  try simp only [Act.put, List.setIfInBounds_toArray, List.set_cons_zero, List.set_cons_succ]
  refine rest_take (i := 18) rfl (by kernel_rfl) (by kernel_rfl) (by kernel_rfl) (by rfl) (fun w' hg => by go_simp; try with_reducible rfl) ?_
  try simp only [Act.put, List.setIfInBounds_toArray, List.set_cons_zero, List.set_cons_succ]
  refine rest_take (i := 19) rfl (by kernel_rfl) (by kernel_rfl) (by kernel_rfl) (by rfl) (fun w' hg => by go_simp; try with_reducible rfl) ?_
  try simp only [Act.put, List.setIfInBounds_toArray, List.set_cons_zero, List.set_cons_succ]
  refine rest_take (i := 20) rfl (by kernel_rfl) (by kernel_rfl) (by kernel_rfl) (by rfl) (fun w' hg => by have hcv := conv_at R3.out L3.out c3 w' hg; rw [← HSX.out] at hcv; go_simp; try with_reducible rfl) ?_
  try simp only [Act.put, List.setIfInBounds_toArray, List.set_cons_zero, List.set_cons_succ]
  refine rest_take (i := 21) rfl (by kernel_rfl) (by kernel_rfl) (by kernel_rfl) (by rfl) (fun w' hg => by go_simp; try with_reducible rfl) ?_
  try simp only [Act.put, List.setIfInBounds_toArray, List.set_cons_zero, List.set_cons_succ]
  refine rest_take (i := 22) rfl (by kernel_rfl) (by kernel_rfl) (by kernel_rfl) (by rfl) (fun w' hg => by go_simp; try with_reducible rfl) ?_
  try simp only [Act.put, List.setIfInBounds_toArray, List.set_cons_zero, List.set_cons_succ]
  refine rest_lone (i := 23) rfl (by kernel_rfl) (by rfl) (fun K hK => ?_)
  go_simp
  refine (CX.out (some ⟨w.heap.size, 0, none⟩) _ H8.out.key H8.out.2.2).mono ?_
  rintro e v9 ⟨rfl, hg9⟩
  rw [show (ByteArray.mk (ctsE (keysL k) b).toArray) = SX by rw [HSX.out, HXe.out, HW.out]]
  have H9 := Lib.hid (H8.out.grow hg9)
  replace R5 := Lib.hid (R5.out.grow hg9)
  replace R6 := Lib.hid (R6.out.grow hg9)
  refine hK.out _ _ hg9 ?_
  clear hK K hg9 H8 R3
  try simp only [Act.put, List.setIfInBounds_toArray, List.set_cons_zero, List.set_cons_succ]
  refine rest_take (i := 24) rfl (by kernel_rfl) (by kernel_rfl) (by kernel_rfl) (by rfl) (fun w' hg => by go_simp; try with_reducible rfl) ?_
  try simp only [Act.put, List.setIfInBounds_toArray, List.set_cons_zero, List.set_cons_succ]
  refine rest_take (i := 25) rfl (by kernel_rfl) (by kernel_rfl) (by kernel_rfl) (by rfl) (fun w' hg => by go_simp; try with_reducible rfl) ?_
  try simp only [Act.put, List.setIfInBounds_toArray, List.set_cons_zero, List.set_cons_succ]
  refine rest_take (i := 26) rfl (by kernel_rfl) (by kernel_rfl) (by kernel_rfl) (by rfl) (fun w' hg => by go_simp; try with_reducible rfl) ?_
  try simp only [Act.put, List.setIfInBounds_toArray, List.set_cons_zero, List.set_cons_succ]
  refine rest_take (i := 27) rfl (by kernel_rfl) (by kernel_rfl) (by kernel_rfl) (by rfl) (fun w' hg => by go_simp; try with_reducible rfl) ?_
  try simp only [Act.put, List.setIfInBounds_toArray, List.set_cons_zero, List.set_cons_succ]
  refine rest_take (i := 28) rfl (by kernel_rfl) (by kernel_rfl) (by kernel_rfl) (by rfl) (fun w' hg => by have hcv := conv_at R5.out Hb.out c5 w' hg; rw [← HSB.out] at hcv; go_simp; try with_reducible rfl) ?_
  try simp only [Act.put, List.setIfInBounds_toArray, List.set_cons_zero, List.set_cons_succ]
  refine rest_take (i := 29) rfl (by kernel_rfl) (by kernel_rfl) (by kernel_rfl) (by rfl) (fun w' hg => by go_simp; try with_reducible rfl) ?_
  try simp only [Act.put, List.setIfInBounds_toArray, List.set_cons_zero, List.set_cons_succ]
  refine rest_take (i := 30) rfl (by kernel_rfl) (by kernel_rfl) (by kernel_rfl) (by rfl) (fun w' hg => by have hcv := conv_at H9.out.2.2 Hb.out d w' hg; rw [← HSB.out] at hcv; go_simp; try with_reducible rfl) ?_
  try simp only [Act.put, List.setIfInBounds_toArray, List.set_cons_zero, List.set_cons_succ]
  refine rest_take (i := 31) rfl (by kernel_rfl) (by kernel_rfl) (by kernel_rfl) (by rfl) (fun w' hg => by go_simp; try with_reducible rfl) ?_
  try simp only [Act.put, List.setIfInBounds_toArray, List.set_cons_zero, List.set_cons_succ]
  refine rest_take (i := 32) rfl (by kernel_rfl) (by kernel_rfl) (by kernel_rfl) (by rfl) (fun w' hg => by go_simp; try with_reducible rfl) ?_
  try simp only [Act.put, List.setIfInBounds_toArray, List.set_cons_zero, List.set_cons_succ]
  refine rest_take (i := 33) rfl (by kernel_rfl) (by kernel_rfl) (by kernel_rfl) (by rfl) (fun w' hg => by go_simp; try with_reducible rfl) ?_
  try simp only [Act.put, List.setIfInBounds_toArray, List.set_cons_zero, List.set_cons_succ]
  refine rest_take (i := 34) rfl (by kernel_rfl) (by kernel_rfl) (by kernel_rfl) (by rfl) (fun w' hg => by go_simp; try with_reducible rfl) ?_
  try simp only [Act.put, List.setIfInBounds_toArray, List.set_cons_zero, List.set_cons_succ]
  refine rest_take (i := 35) rfl (by kernel_rfl) (by kernel_rfl) (by kernel_rfl) (by rfl) (fun w' hg => by have hcv := conv_at R6.out Hb.out c6 w' hg; rw [← HSB.out] at hcv; go_simp; try with_reducible rfl) ?_
  try simp only [Act.put, List.setIfInBounds_toArray, List.set_cons_zero, List.set_cons_succ]
  refine rest_take (i := 36) rfl (by kernel_rfl) (by kernel_rfl) (by kernel_rfl) (by rfl) (fun w' hg => by go_simp; try with_reducible rfl) ?_
  try simp only [Act.put, List.setIfInBounds_toArray, List.set_cons_zero, List.set_cons_succ]
  refine rest_take (i := 37) rfl (by kernel_rfl) (by kernel_rfl) (by kernel_rfl) (by rfl) (fun w' hg => by have hcv := conv_at H9.out.2.2 Hb.out d w' hg; rw [← HSB.out] at hcv; go_simp; try with_reducible rfl) ?_
  try simp only [Act.put, List.setIfInBounds_toArray, List.set_cons_zero, List.set_cons_succ]
  refine rest_take (i := 38) rfl (by kernel_rfl) (by kernel_rfl) (by kernel_rfl) (by rfl) (fun w' hg => by go_simp; try with_reducible rfl) ?_
  try simp only [Act.put, List.setIfInBounds_toArray, List.set_cons_zero, List.set_cons_succ]
  refine rest_take (i := 39) rfl (by kernel_rfl) (by kernel_rfl) (by kernel_rfl) (by rfl) (fun w' hg => by go_simp; try with_reducible rfl) ?_
  try simp only [Act.put, List.setIfInBounds_toArray, List.set_cons_zero, List.set_cons_succ]
  refine rest_take (i := 40) rfl (by kernel_rfl) (by kernel_rfl) (by kernel_rfl) (by rfl) (fun w' hg => by go_simp; try with_reducible rfl) ?_
  try simp only [Act.put, List.setIfInBounds_toArray, List.set_cons_zero, List.set_cons_succ]
  refine rest_take (i := 41) rfl (by kernel_rfl) (by kernel_rfl) (by kernel_rfl) (by rfl) (fun w' hg => by go_simp; try with_reducible rfl) ?_
  try simp only [Act.put, List.setIfInBounds_toArray, List.set_cons_zero, List.set_cons_succ]
  refine rest_take (i := 42) rfl (by kernel_rfl) (by kernel_rfl) (by kernel_rfl) (by rfl) (fun w' hg => by go_simp; try with_reducible rfl) ?_
  try simp only [Act.put, List.setIfInBounds_toArray, List.set_cons_zero, List.set_cons_succ]
  refine rest_take (i := 43) rfl (by kernel_rfl) (by kernel_rfl) (by kernel_rfl) (by rfl) (fun w' hg => by go_simp; try with_reducible rfl) ?_
  try simp only [Act.put, List.setIfInBounds_toArray, List.set_cons_zero, List.set_cons_succ]
  refine rest_take (i := 44) rfl (by kernel_rfl) (by kernel_rfl) (by kernel_rfl) (by rfl) (fun w' hg => by go_simp; try with_reducible rfl) ?_
  try simp only [Act.put, List.setIfInBounds_toArray, List.set_cons_zero, List.set_cons_succ]
  refine rest_take (i := 45) rfl (by kernel_rfl) (by kernel_rfl) (by kernel_rfl) (by rfl) (fun w' hg => by go_simp; try with_reducible rfl) ?_
  try simp only [Act.put, List.setIfInBounds_toArray, List.set_cons_zero, List.set_cons_succ]
  refine rest_take (i := 46) rfl (by kernel_rfl) (by kernel_rfl) (by kernel_rfl) (by rfl) (fun w' hg => by go_simp; try with_reducible rfl) ?_
  try simp only [Act.put, List.setIfInBounds_toArray, List.set_cons_zero, List.set_cons_succ]
  refine rest_take (i := 47) rfl (by kernel_rfl) (by kernel_rfl) (by kernel_rfl) (by rfl) (fun w' hg => by go_simp; try with_reducible rfl) ?_
  try simp only [Act.put, List.setIfInBounds_toArray, List.set_cons_zero, List.set_cons_succ]
  refine rest_done (by kernel_rfl) ?_
  go_wp2
  go_ret
  exact ⟨rfl, H9.out.1⟩
theorem texts_walk (HE : EncFit) (HD : DecFit) (HN : EncNil) (HEB : EncBad) (HDB : DecBad) (k : List UInt8) (B : Option Addr) (bl d : Nat) (b : List UInt8) (w : World) (hk : k.length = 32) (hb : b.length = bl) (hbd : bl ≤ d) (hd : d ≤ maxLen) (hB : Rd w w.heap.size B b) :
    Calls Try.prog 3 #[.agg (bvs k).toArray, .slice B bl d] w (Says w true) := by
  by_cases h1 : bl < 16
  · exact texts_small HE HEB HDB k B bl d b w hk hb hbd hd hB h1
  by_cases h2 : 256 < bl
  · exact texts_great HE HEB HDB k B bl d b w hk hb hbd hd hB h2
  by_cases h3 : 90 < bl
  · exact texts_mid HE k B bl d w h3 (by omega)
  · exact texts_ok HE HD HN k B bl d b w hk hb hbd hd hB (by omega) (by omega)
end Go.Proofs.Ytgfmdjagggnfbaa.S9
