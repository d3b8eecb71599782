/-
  XtsUnits: the walk, out of the program's contracts.
-/
import Derived.Test.YtbgbfofghhiolaaXwA
namespace Go.Proofs.Ytbgbfofghhiolaa.S8
open Go.RowKit
open Go.Proofs.Ytbgbfofghhiolaa.S7 hiding intOf
set_option linter.unusedVariables false
set_option linter.unusedSimpArgs false

/-- The key and the unit, as they came in. -/
def InU (w v : World) (A B : Option Addr) (k b : List UInt8) : Prop := Grown w v ∧ Rd v v.heap.size A k ∧ Rd v v.heap.size B b
theorem InU.grow {w v v' : World} {A B : Option Addr} {k b : List UInt8} (h : InU w v A B k b) (hg : Grown v v') : InU w v' A B k b := ⟨Grown.trans h.1 hg, h.2.1.grow hg, h.2.2.grow hg⟩

set_option maxHeartbeats 4000000 in
set_option maxRecDepth 20000 in
theorem units_long (HNE : EncNo) (HE : EncOk) (A B : Option Addr) (kl c bl d : Nat) (n : Int) (w : World) (h1 : 200 < kl) :
    Calls Try.prog 3 #[.slice A kl c, .int .i64 n, .slice B bl d] w (Says w true) := by
  have hne := Lib.hid HNE
  have he := Lib.hid HE
  clear HNE HE
  have b1 : (200 : Int) < (kl : Int) := by omega
  go_enter Try.func3, Try.ntmps3
  go_wp2_with fail
  refine (awakeX hne.out he.out w).mono ?_
  rintro e w1 ⟨rfl, hg1⟩
  have G1 := Lib.hid hg1
  clear hg1
  go_wp2_with fail
  refine (awakeX_twice hne.out he.out w w1 G1.out).mono ?_
  rintro e w2 ⟨rfl, hg2⟩
  have G2 := Lib.hid hg2
  clear hg2 G1
  go_wp2
  go_ret
  exact ⟨rfl, G2.out⟩
set_option maxHeartbeats 4000000 in
set_option maxRecDepth 20000 in
theorem units_mid (HNE : EncNo) (HE : EncOk) (A B : Option Addr) (kl c bl d : Nat) (n : Int) (w : World) (h1 : kl ≤ 200) (h2 : 100 < bl) (h3 : bl ≤ 1024) (h4 : bl % 16 = 0) :
    Calls Try.prog 3 #[.slice A kl c, .int .i64 n, .slice B bl d] w (Says w true) := by
  have hne := Lib.hid HNE
  have he := Lib.hid HE
  clear HNE HE
  have b1 : (kl : Int) ≤ 200 := by omega
  have b2 : (100 : Int) < (bl : Int) := by omega
  have b3 : (bl : Int) ≤ 1024 := by omega
  have b4 : (bl : Int) % 16 = 0 := by omega
  have b5 : (bl : Int).tmod 16 = 0 := by rw [Int.tmod_eq_emod_of_nonneg (by omega)]; omega
  go_enter Try.func3, Try.ntmps3
  go_wp2_with fail
  refine (awakeX hne.out he.out w).mono ?_
  rintro e w1 ⟨rfl, hg1⟩
  have G1 := Lib.hid hg1
  clear hg1
  go_wp2_with fail
  refine (awakeX_twice hne.out he.out w w1 G1.out).mono ?_
  rintro e w2 ⟨rfl, hg2⟩
  have G2 := Lib.hid hg2
  clear hg2 G1
  go_wp2
  go_ret
  exact ⟨rfl, G2.out⟩
set_option maxHeartbeats 4000000 in
set_option maxRecDepth 20000 in
theorem units_small (HNE : EncNo) (HND : DecNo) (HE : EncOk) (A B : Option Addr) (kl c bl d : Nat) (n : Int) (k b : List UInt8) (w : World) (hk : k.length = kl) (hkc : kl ≤ c) (hc : c ≤ maxLen) (hR : Rd w w.heap.size A k) (hn1 : -9223372036854775808 ≤ n) (hn2 : n < 9223372036854775808) (hb : b.length = bl) (hbd : bl ≤ d) (hd : d ≤ maxLen) (hB : Rd w w.heap.size B b) (hno : ¬ okX kl n bl) (h1 : kl ≤ 200) (h2 : bl ≤ 100) :
    Calls Try.prog 3 #[.slice A kl c, .int .i64 n, .slice B bl d] w (Says w true) := by
  have hne := Lib.hid HNE
  have hnd := Lib.hid HND
  have he := Lib.hid HE
  have HX := Lib.hid (show InU w w A B k b from ⟨Grown.refl _, hR, hB⟩)
  have CE := Lib.hid (fun v (h1 : Rd v v.heap.size A k) (h2 : Rd v v.heap.size B b) => HNE A B kl c bl d n k b v hk hkc hc h1 hn1 hn2 hb hbd hd h2 hno)
  have CD := Lib.hid (fun v (h1 : Rd v v.heap.size A k) (h2 : Rd v v.heap.size B b) => HND A B kl c bl d n k b v hk hkc hc h1 hn1 hn2 hb hbd hd h2 hno)
  have CR := Lib.hid (fun v => right_no A B kl c bl d n hno (by unfold maxLen at hc; omega) (by unfold maxLen at hd; omega) v)
  have b1 : (kl : Int) ≤ 200 := by omega
  have b2 : ¬ (100 : Int) < (bl : Int) := by omega
  have hd2 : d ≤ 9223372036854775807 := by unfold maxLen at hd; omega
  clear HNE HND HE hk hkc hc hR hn1 hn2 hb hB hno hd
  go_enter Try.func3, Try.ntmps3
  go_wp2_with fail
  refine (awakeX hne.out he.out w).mono ?_
  rintro e w1 ⟨rfl, hg1⟩
  have X1 := Lib.hid (HX.out.grow hg1)
  clear hg1 HX
  go_wp2_with fail
  refine (CE.out _ X1.out.2.1 X1.out.2.2).mono ?_
  rintro e w2 ⟨A2, c2, rfl, hg2⟩
  have X2 := Lib.hid (X1.out.grow hg2)
  clear hg2 X1
  go_wp2_with fail
  refine (CD.out _ X2.out.2.1 X2.out.2.2).mono ?_
  rintro e w3 ⟨A3, c3, rfl, hg3⟩
  have X3 := Lib.hid (X2.out.grow hg3)
  clear hg3 X2
  go_wp2_with fail
  refine (CR.out _).mono ?_
  rintro e w4 ⟨rfl, rfl⟩
  go_wp2
  go_ret
  exact ⟨rfl, X3.out.1⟩
set_option maxHeartbeats 4000000 in
set_option maxRecDepth 20000 in
theorem units_great (HNE : EncNo) (HND : DecNo) (HE : EncOk) (A B : Option Addr) (kl c bl d : Nat) (n : Int) (k b : List UInt8) (w : World) (hk : k.length = kl) (hkc : kl ≤ c) (hc : c ≤ maxLen) (hR : Rd w w.heap.size A k) (hn1 : -9223372036854775808 ≤ n) (hn2 : n < 9223372036854775808) (hb : b.length = bl) (hbd : bl ≤ d) (hd : d ≤ maxLen) (hB : Rd w w.heap.size B b) (hno : ¬ okX kl n bl) (h1 : kl ≤ 200) (h2 : 1024 < bl) :
    Calls Try.prog 3 #[.slice A kl c, .int .i64 n, .slice B bl d] w (Says w true) := by
  have hne := Lib.hid HNE
  have hnd := Lib.hid HND
  have he := Lib.hid HE
  have HX := Lib.hid (show InU w w A B k b from ⟨Grown.refl _, hR, hB⟩)
  have CE := Lib.hid (fun v (h1 : Rd v v.heap.size A k) (h2 : Rd v v.heap.size B b) => HNE A B kl c bl d n k b v hk hkc hc h1 hn1 hn2 hb hbd hd h2 hno)
  have CD := Lib.hid (fun v (h1 : Rd v v.heap.size A k) (h2 : Rd v v.heap.size B b) => HND A B kl c bl d n k b v hk hkc hc h1 hn1 hn2 hb hbd hd h2 hno)
  have CR := Lib.hid (fun v => right_no A B kl c bl d n hno (by unfold maxLen at hc; omega) (by unfold maxLen at hd; omega) v)
  have b1 : (kl : Int) ≤ 200 := by omega
  have b2 : (100 : Int) < (bl : Int) := by omega
  have b3 : ¬ (bl : Int) ≤ 1024 := by omega
  have hd2 : d ≤ 9223372036854775807 := by unfold maxLen at hd; omega
  clear HNE HND HE hk hkc hc hR hn1 hn2 hb hB hno hd
  go_enter Try.func3, Try.ntmps3
  go_wp2_with fail
  refine (awakeX hne.out he.out w).mono ?_
  rintro e w1 ⟨rfl, hg1⟩
  have X1 := Lib.hid (HX.out.grow hg1)
  clear hg1 HX
  go_wp2_with fail
  refine (CE.out _ X1.out.2.1 X1.out.2.2).mono ?_
  rintro e w2 ⟨A2, c2, rfl, hg2⟩
  have X2 := Lib.hid (X1.out.grow hg2)
  clear hg2 X1
  go_wp2_with fail
  refine (CD.out _ X2.out.2.1 X2.out.2.2).mono ?_
  rintro e w3 ⟨A3, c3, rfl, hg3⟩
  have X3 := Lib.hid (X2.out.grow hg3)
  clear hg3 X2
  go_wp2_with fail
  refine (CR.out _).mono ?_
  rintro e w4 ⟨rfl, rfl⟩
  go_wp2
  go_ret
  exact ⟨rfl, X3.out.1⟩
set_option maxHeartbeats 4000000 in
set_option maxRecDepth 20000 in
theorem units_odd (HNE : EncNo) (HND : DecNo) (HE : EncOk) (A B : Option Addr) (kl c bl d : Nat) (n : Int) (k b : List UInt8) (w : World) (hk : k.length = kl) (hkc : kl ≤ c) (hc : c ≤ maxLen) (hR : Rd w w.heap.size A k) (hn1 : -9223372036854775808 ≤ n) (hn2 : n < 9223372036854775808) (hb : b.length = bl) (hbd : bl ≤ d) (hd : d ≤ maxLen) (hB : Rd w w.heap.size B b) (hno : ¬ okX kl n bl) (h1 : kl ≤ 200) (h2 : 100 < bl) (h3 : bl ≤ 1024) (h4 : ¬ bl % 16 = 0) :
    Calls Try.prog 3 #[.slice A kl c, .int .i64 n, .slice B bl d] w (Says w true) := by
  have hne := Lib.hid HNE
  have hnd := Lib.hid HND
  have he := Lib.hid HE
  have HX := Lib.hid (show InU w w A B k b from ⟨Grown.refl _, hR, hB⟩)
  have CE := Lib.hid (fun v (h1 : Rd v v.heap.size A k) (h2 : Rd v v.heap.size B b) => HNE A B kl c bl d n k b v hk hkc hc h1 hn1 hn2 hb hbd hd h2 hno)
  have CD := Lib.hid (fun v (h1 : Rd v v.heap.size A k) (h2 : Rd v v.heap.size B b) => HND A B kl c bl d n k b v hk hkc hc h1 hn1 hn2 hb hbd hd h2 hno)
  have CR := Lib.hid (fun v => right_no A B kl c bl d n hno (by unfold maxLen at hc; omega) (by unfold maxLen at hd; omega) v)
  have b1 : (kl : Int) ≤ 200 := by omega
  have b2 : (100 : Int) < (bl : Int) := by omega
  have b3 : (bl : Int) ≤ 1024 := by omega
  obtain ⟨m, hm⟩ : ∃ m, m = bl % 16 := ⟨_, rfl⟩
  have b4 : (bl : Int) % 16 = (m : Int) := by omega
  have b5 : (bl : Int).tmod 16 = (m : Int) := by rw [hm]; rfl
  have b6 : ((m : Int) == 0) = false := by simp; omega
  have b7 : ¬ (m : Int) = 0 := by omega
  clear hm h4
  have hd2 : d ≤ 9223372036854775807 := by unfold maxLen at hd; omega
  clear HNE HND HE hk hkc hc hR hn1 hn2 hb hB hno hd
  go_enter Try.func3, Try.ntmps3
  go_wp2_with fail
  refine (awakeX hne.out he.out w).mono ?_
  rintro e w1 ⟨rfl, hg1⟩
  have X1 := Lib.hid (HX.out.grow hg1)
  clear hg1 HX
  go_wp2_with fail
  refine (CE.out _ X1.out.2.1 X1.out.2.2).mono ?_
  rintro e w2 ⟨A2, c2, rfl, hg2⟩
  have X2 := Lib.hid (X1.out.grow hg2)
  clear hg2 X1
  go_wp2_with fail
  refine (CD.out _ X2.out.2.1 X2.out.2.2).mono ?_
  rintro e w3 ⟨A3, c3, rfl, hg3⟩
  have X3 := Lib.hid (X2.out.grow hg3)
  clear hg3 X2
  go_wp2_with fail
  refine (CR.out _).mono ?_
  rintro e w4 ⟨rfl, rfl⟩
  go_wp2
  go_ret
  exact ⟨rfl, X3.out.1⟩
set_option maxHeartbeats 4000000 in
set_option maxRecDepth 20000 in
theorem units_ok (HNE : EncNo) (HE : EncOk) (HD : DecOk) (A B : Option Addr) (c bl d kb n : Nat) (k b : List UInt8) (w : World) (hk : k.length = 64) (hkc : 64 ≤ c) (hc : c ≤ maxLen) (hR : Rd w w.heap.size A k) (hn2 : n < 9223372036854775808) (hb : b.length = bl) (hbd : bl ≤ d) (hd : d ≤ maxLen) (hB : Rd w w.heap.size B b)
    (hkb : bl = 16 * kb) (h1 : 1 ≤ kb) (h2 : bl ≤ 100) :
    Calls Try.prog 3 #[.slice A 64 c, .int .i64 (n : Int), .slice B bl d] w (Says w true) := by
  have hne := Lib.hid HNE
  have he := Lib.hid HE
  have HX := Lib.hid (show InU w w A B k b from ⟨Grown.refl _, hR, hB⟩)
  have CE := Lib.hid (fun (B2 : Option Addr) (d2 : Nat) (b2 : List UInt8) v (h1' : Rd v v.heap.size A k) (hb2 : b2.length = bl) (hbd2 : bl ≤ d2) (hd2 : d2 ≤ maxLen) (h2' : Rd v v.heap.size B2 b2) => HE A B2 c bl d2 n kb k b2 v hk hkc hc h1' hn2 hb2 hkb h1 (by omega) hbd2 hd2 h2')
  have CD := Lib.hid (fun (B2 : Option Addr) (d2 : Nat) (b2 : List UInt8) v (h1' : Rd v v.heap.size A k) (hb2 : b2.length = bl) (hbd2 : bl ≤ d2) (hd2 : d2 ≤ maxLen) (h2' : Rd v v.heap.size B2 b2) => HD A B2 c bl d2 n kb k b2 v hk hkc hc h1' hn2 hb2 hkb h1 (by omega) hbd2 hd2 h2')
  have CR := Lib.hid (fun v => right_yes A B 64 c bl d (n : Int) (show okX 64 (n : Int) bl from ⟨rfl, by omega, by omega, by omega, by omega⟩) v)
  have CX := Lib.hid (fun v (h1' : Rd v v.heap.size A k) (h2' : Rd v v.heap.size B b) => refXts_any A B c d k b n kb bl v hk hkc h1' hn2 hb hkb (by omega) h2')
  have Hb := Lib.hid hb
  have Hbd := Lib.hid hbd
  have Hd := Lib.hid hd
  obtain ⟨X, hX⟩ : ∃ X, X = xtE (wK1 k) (wK2 k) n b kb := ⟨_, rfl⟩
  obtain ⟨Y, hY⟩ : ∃ Y, Y = xtD (wK1 k) (wK2 k) n b kb := ⟨_, rfl⟩
  have HXY := Lib.hid (show xtD (wK1 k) (wK2 k) n X kb = b by rw [hX]; exact xtD_xtE _ _ n b kb (by omega))
  have HYX := Lib.hid (show xtE (wK1 k) (wK2 k) n Y kb = b by rw [hY]; exact xtE_xtD _ _ n b kb (by omega))
  have HXe := Lib.hid hX
  have HYe := Lib.hid hY
  have b2 : ¬ (100 : Int) < (bl : Int) := by omega
  obtain ⟨SX, hSX⟩ : ∃ S : ByteArray, S = ⟨X.toArray⟩ := ⟨_, rfl⟩
  obtain ⟨SB, hSB⟩ : ∃ S : ByteArray, S = ⟨b.toArray⟩ := ⟨_, rfl⟩
  have HSX := Lib.hid hSX
  have HSB := Lib.hid hSB
  clear HNE HE HD hk hkc hc hR hn2 hb hB hbd hd hkb h1 hX hY hSX hSB
  go_enter Try.func3, Try.ntmps3
  go_wp2_with fail
  refine (awakeX hne.out he.out w).mono ?_
  rintro e w1 ⟨rfl, hg1⟩
  have X1 := Lib.hid (HX.out.grow hg1)
  clear hg1 HX
  go_wp2_with fail
  refine (CE.out B d b _ X1.out.2.1 Hb.out Hbd.out Hd.out X1.out.2.2).mono ?_
  rintro e w2 ⟨A2, c2, rfl, hl2, hc2, hm2, hr2, hg2⟩
  rw [← HXe.out] at hl2 hr2
  have X2 := Lib.hid (X1.out.grow hg2)
  have R2 := Lib.hid hr2
  have L2 := Lib.hid hl2
  have C2 := Lib.hid hc2
  have M2 := Lib.hid hm2
  clear hg2 X1 hl2 hc2 hm2 hr2
  go_wp2_with fail
  refine (CD.out B d b _ X2.out.2.1 Hb.out Hbd.out Hd.out X2.out.2.2).mono ?_
  rintro e w3 ⟨A3, c3, rfl, hl3, hc3, hm3, hr3, hg3⟩
  rw [← HYe.out] at hl3 hr3
  have X3 := Lib.hid (X2.out.grow hg3)
  replace R2 := Lib.hid (R2.out.grow hg3)
  have R3 := Lib.hid hr3
  have L3 := Lib.hid hl3
  have C3 := Lib.hid hc3
  have M3 := Lib.hid hm3
  clear hg3 X2 hl3 hc3 hm3 hr3
  go_wp2_with fail
  refine (CR.out _).mono ?_
  rintro e w4 ⟨rfl, rfl⟩
  go_wp2_with fail
  refine (CD.out A2 c2 X _ X3.out.2.1 L2.out C2.out M2.out R2.out).mono ?_
  rintro e w5 ⟨A5, c5, rfl, hl5, hc5, hm5, hr5, hg5⟩
  rw [HXY.out] at hl5 hr5
  have X5 := Lib.hid (X3.out.grow hg5)
  replace R2 := Lib.hid (R2.out.grow hg5)
  replace R3 := Lib.hid (R3.out.grow hg5)
  have R5 := Lib.hid hr5
  clear hg5 X3 hl5 hc5 hm5 hr5
  go_wp2_with fail
  refine (CE.out A3 c3 Y _ X5.out.2.1 L3.out C3.out M3.out R3.out).mono ?_
  rintro e w6 ⟨A6, c6, rfl, hl6, hc6, hm6, hr6, hg6⟩
  rw [HYX.out] at hl6 hr6
  have X6 := Lib.hid (X5.out.grow hg6)
  replace R2 := Lib.hid (R2.out.grow hg6)
  replace R5 := Lib.hid (R5.out.grow hg6)
  have R6 := Lib.hid hr6
  clear hg6 X5 R3 hl6 hc6 hm6 hr6
  go_wp2
  refine rest_start (by kernel_rfl) fun v hv => ?_
  have X7 := Lib.hid (X6.out.grow hv)
  replace R2 := Lib.hid (R2.out.grow hv)
  replace R5 := Lib.hid (R5.out.grow hv)
  replace R6 := Lib.hid (R6.out.grow hv)
  clear hv X6
  refine rest_take (i := 0) rfl (by kernel_rfl) (by kernel_rfl) (by kernel_rfl) (by rfl) (fun w' hg => by go_simp; try with_reducible rfl) ?_
  try simp only [Act.put, List.setIfInBounds_toArray, List.set_cons_zero, List.set_cons_succ]
  refine rest_take (i := 1) rfl (by kernel_rfl) (by kernel_rfl) (by kernel_rfl) (by rfl) (fun w' hg => by go_simp; try with_reducible rfl) ?_
  try simp only [Act.put, List.setIfInBounds_toArray, List.set_cons_zero, List.set_cons_succ]
  refine rest_take (i := 2) rfl (by kernel_rfl) (by kernel_rfl) (by kernel_rfl) (by rfl) (fun w' hg => by go_simp; try with_reducible rfl) ?_
  try simp only [Act.put, List.setIfInBounds_toArray, List.set_cons_zero, List.set_cons_succ]
  refine rest_take (i := 3) rfl (by kernel_rfl) (by kernel_rfl) (by kernel_rfl) (by rfl) (fun w' hg => by go_simp; try with_reducible rfl) ?_
  try simp only [Act.put, List.setIfInBounds_toArray, List.set_cons_zero, List.set_cons_succ]
  refine rest_take (i := 4) rfl (by kernel_rfl) (by kernel_rfl) (by kernel_rfl) (by rfl) (fun w' hg => by go_simp; try with_reducible rfl) ?_
  try simp only [Act.put, List.setIfInBounds_toArray, List.set_cons_zero, List.set_cons_succ]
  refine rest_take (i := 5) rfl (by kernel_rfl) (by kernel_rfl) (by kernel_rfl) (by rfl) (fun w' hg => by go_simp; try with_reducible rfl) ?_
  try simp only [Act.put, List.setIfInBounds_toArray, List.set_cons_zero, List.set_cons_succ]
  refine rest_take (i := 6) rfl (by kernel_rfl) (by kernel_rfl) (by kernel_rfl) (by rfl) (fun w' hg => by go_simp; try with_reducible rfl) ?_
  try simp only [Act.put, List.setIfInBounds_toArray, List.set_cons_zero, List.set_cons_succ]
  refine rest_take (i := 7) rfl (by kernel_rfl) (by kernel_rfl) (by kernel_rfl) (by rfl) (fun w' hg => by go_simp; try with_reducible rfl) ?_
  try simp only [Act.put, List.setIfInBounds_toArray, List.set_cons_zero, List.set_cons_succ]
  refine rest_take (i := 8) rfl (by kernel_rfl) (by kernel_rfl) (by kernel_rfl) (by rfl) (fun w' hg => by go_simp; try with_reducible rfl) ?_
  try simp only [Act.put, List.setIfInBounds_toArray, List.set_cons_zero, List.set_cons_succ]
  refine rest_take (i := 9) rfl (by kernel_rfl) (by kernel_rfl) (by kernel_rfl) (by rfl) (fun w' hg => by go_simp; try with_reducible rfl) ?_
  try simp only [Act.put, List.setIfInBounds_toArray, List.set_cons_zero, List.set_cons_succ]
  refine rest_take (i := 10) rfl (by kernel_rfl) (by kernel_rfl) (by kernel_rfl) (by rfl) (fun w' hg => by go_simp; try with_reducible rfl) ?_
  try simp only [Act.put, List.setIfInBounds_toArray, List.set_cons_zero, List.set_cons_succ]
  refine rest_take (i := 11) rfl (by kernel_rfl) (by kernel_rfl) (by kernel_rfl) (by rfl) (fun w' hg => by go_simp; try with_reducible rfl) ?_
  try simp only [Act.put, List.setIfInBounds_toArray, List.set_cons_zero, List.set_cons_succ]
  refine rest_take (i := 12) rfl (by kernel_rfl) (by kernel_rfl) (by kernel_rfl) (by rfl) (fun w' hg => by go_simp; try with_reducible rfl) ?_
  try simp only [Act.put, List.setIfInBounds_toArray, List.set_cons_zero, List.set_cons_succ]
  refine rest_take (i := 13) rfl (by kernel_rfl) (by kernel_rfl) (by kernel_rfl) (by rfl) (fun w' hg => by go_simp; try with_reducible rfl) ?_
  try simp only [Act.put, List.setIfInBounds_toArray, List.set_cons_zero, List.set_cons_succ]
  refine rest_take (i := 14) rfl (by kernel_rfl) (by kernel_rfl) (by kernel_rfl) (by rfl) (fun w' hg => by go_simp; try with_reducible rfl) ?_
  try simp only [Act.put, List.setIfInBounds_toArray, List.set_cons_zero, List.set_cons_succ]
  refine rest_take (i := 15) rfl (by kernel_rfl) (by kernel_rfl) (by kernel_rfl) (by rfl) (fun w' hg => by go_simp; try with_reducible rfl) ?_
  try simp only [Act.put, List.setIfInBounds_toArray, List.set_cons_zero, List.set_cons_succ]
  refine rest_take (i := 16) rfl (by kernel_rfl) (by kernel_rfl) (by kernel_rfl) (by rfl) (fun w' hg => by have hcv := conv_at R2.out L2.out c2 w' hg; rw [← HSX.out] at hcv; go_simp; try with_reducible rfl) ?_
  try simp only [Act.put, List.setIfInBounds_toArray, List.set_cons_zero, List.set_cons_succ]
  refine rest_take (i := 17) rfl (by kernel_rfl) (by kernel_rfl) (by kernel_rfl) (by rfl) (fun w' hg => by go_simp; try with_reducible rfl) ?_
  try simp only [Act.put, List.setIfInBounds_toArray, List.set_cons_zero, List.set_cons_succ]
  refine rest_take (i := 18) rfl (by kernel_rfl) (by kernel_rfl) (by kernel_rfl) (by rfl) (fun w' hg => by go_simp; try with_reducible rfl) ?_
  try simp only [Act.put, List.setIfInBounds_toArray, List.set_cons_zero, List.set_cons_succ]
  refine rest_take (i := 19) rfl (by kernel_rfl) (by kernel_rfl) (by kernel_rfl) (by rfl) (fun w' hg => by go_simp; try with_reducible rfl) ?_
  try simp only [Act.put, List.setIfInBounds_toArray, List.set_cons_zero, List.set_cons_succ]
  refine rest_lone (i := 20) rfl (by kernel_rfl) (by rfl) (fun K hK => ?_)
  go_simp
  refine (CX.out _ X7.out.2.1 X7.out.2.2).mono ?_
  rintro e v8 ⟨rfl, hg8⟩
  rw [show (ByteArray.mk (xtE (keysL (k.take 32)) (keysL (k.drop 32)) n b kb).toArray) = SX by rw [HSX.out, HXe.out]; rfl]
  have X8 := Lib.hid (X7.out.grow hg8)
  replace R5 := Lib.hid (R5.out.grow hg8)
  replace R6 := Lib.hid (R6.out.grow hg8)
  refine hK.out _ _ hg8 ?_
  clear hK K hg8 X7 R2
  try simp only [Act.put, List.setIfInBounds_toArray, List.set_cons_zero, List.set_cons_succ]
  refine rest_take (i := 21) rfl (by kernel_rfl) (by kernel_rfl) (by kernel_rfl) (by rfl) (fun w' hg => by go_simp; try with_reducible rfl) ?_
  try simp only [Act.put, List.setIfInBounds_toArray, List.set_cons_zero, List.set_cons_succ]
  refine rest_take (i := 22) rfl (by kernel_rfl) (by kernel_rfl) (by kernel_rfl) (by rfl) (fun w' hg => by go_simp; try with_reducible rfl) ?_
  try simp only [Act.put, List.setIfInBounds_toArray, List.set_cons_zero, List.set_cons_succ]
  refine rest_take (i := 23) rfl (by kernel_rfl) (by kernel_rfl) (by kernel_rfl) (by rfl) (fun w' hg => by go_simp; try with_reducible rfl) ?_
  try simp only [Act.put, List.setIfInBounds_toArray, List.set_cons_zero, List.set_cons_succ]
  refine rest_take (i := 24) rfl (by kernel_rfl) (by kernel_rfl) (by kernel_rfl) (by rfl) (fun w' hg => by go_simp; try with_reducible rfl) ?_
  try simp only [Act.put, List.setIfInBounds_toArray, List.set_cons_zero, List.set_cons_succ]
  refine rest_take (i := 25) rfl (by kernel_rfl) (by kernel_rfl) (by kernel_rfl) (by rfl) (fun w' hg => by have hcv := conv_at R5.out Hb.out c5 w' hg; rw [← HSB.out] at hcv; go_simp; try with_reducible rfl) ?_
  try simp only [Act.put, List.setIfInBounds_toArray, List.set_cons_zero, List.set_cons_succ]
  refine rest_take (i := 26) rfl (by kernel_rfl) (by kernel_rfl) (by kernel_rfl) (by rfl) (fun w' hg => by go_simp; try with_reducible rfl) ?_
  try simp only [Act.put, List.setIfInBounds_toArray, List.set_cons_zero, List.set_cons_succ]
  refine rest_take (i := 27) rfl (by kernel_rfl) (by kernel_rfl) (by kernel_rfl) (by rfl) (fun w' hg => by have hcv := conv_at X8.out.2.2 Hb.out d w' hg; rw [← HSB.out] at hcv; go_simp; try with_reducible rfl) ?_
  try simp only [Act.put, List.setIfInBounds_toArray, List.set_cons_zero, List.set_cons_succ]
  refine rest_take (i := 28) rfl (by kernel_rfl) (by kernel_rfl) (by kernel_rfl) (by rfl) (fun w' hg => by go_simp; try with_reducible rfl) ?_
  try simp only [Act.put, List.setIfInBounds_toArray, List.set_cons_zero, List.set_cons_succ]
  refine rest_take (i := 29) rfl (by kernel_rfl) (by kernel_rfl) (by kernel_rfl) (by rfl) (fun w' hg => by go_simp; try with_reducible rfl) ?_
  try simp only [Act.put, List.setIfInBounds_toArray, List.set_cons_zero, List.set_cons_succ]
  refine rest_take (i := 30) rfl (by kernel_rfl) (by kernel_rfl) (by kernel_rfl) (by rfl) (fun w' hg => by go_simp; try with_reducible rfl) ?_
  try simp only [Act.put, List.setIfInBounds_toArray, List.set_cons_zero, List.set_cons_succ]
  refine rest_take (i := 31) rfl (by kernel_rfl) (by kernel_rfl) (by kernel_rfl) (by rfl) (fun w' hg => by go_simp; try with_reducible rfl) ?_
  try simp only [Act.put, List.setIfInBounds_toArray, List.set_cons_zero, List.set_cons_succ]
  refine rest_take (i := 32) rfl (by kernel_rfl) (by kernel_rfl) (by kernel_rfl) (by rfl) (fun w' hg => by have hcv := conv_at R6.out Hb.out c6 w' hg; rw [← HSB.out] at hcv; go_simp; try with_reducible rfl) ?_
  try simp only [Act.put, List.setIfInBounds_toArray, List.set_cons_zero, List.set_cons_succ]
  refine rest_take (i := 33) rfl (by kernel_rfl) (by kernel_rfl) (by kernel_rfl) (by rfl) (fun w' hg => by go_simp; try with_reducible rfl) ?_
  try simp only [Act.put, List.setIfInBounds_toArray, List.set_cons_zero, List.set_cons_succ]
  refine rest_take (i := 34) rfl (by kernel_rfl) (by kernel_rfl) (by kernel_rfl) (by rfl) (fun w' hg => by have hcv := conv_at X8.out.2.2 Hb.out d w' hg; rw [← HSB.out] at hcv; go_simp; try with_reducible rfl) ?_
  try simp only [Act.put, List.setIfInBounds_toArray, List.set_cons_zero, List.set_cons_succ]
  refine rest_take (i := 35) rfl (by kernel_rfl) (by kernel_rfl) (by kernel_rfl) (by rfl) (fun w' hg => by go_simp; try with_reducible rfl) ?_
  try simp only [Act.put, List.setIfInBounds_toArray, List.set_cons_zero, List.set_cons_succ]
  refine rest_take (i := 36) rfl (by kernel_rfl) (by kernel_rfl) (by kernel_rfl) (by rfl) (fun w' hg => by go_simp; try with_reducible rfl) ?_
  try simp only [Act.put, List.setIfInBounds_toArray, List.set_cons_zero, List.set_cons_succ]
  refine rest_take (i := 37) rfl (by kernel_rfl) (by kernel_rfl) (by kernel_rfl) (by rfl) (fun w' hg => by go_simp; try with_reducible rfl) ?_
  try simp only [Act.put, List.setIfInBounds_toArray, List.set_cons_zero, List.set_cons_succ]
  refine rest_done (by kernel_rfl) ?_
  go_wp2
  go_ret
  exact ⟨rfl, X8.out.1⟩
theorem units_walk (HNE : EncNo) (HND : DecNo) (HE : EncOk) (HD : DecOk) (A B : Option Addr) (kl c bl d : Nat) (n : Int) (k b : List UInt8) (w : World) (hk : k.length = kl) (hkc : kl ≤ c) (hc : c ≤ maxLen) (hR : Rd w w.heap.size A k) (hn1 : -9223372036854775808 ≤ n) (hn2 : n < 9223372036854775808) (hb : b.length = bl) (hbd : bl ≤ d) (hd : d ≤ maxLen) (hB : Rd w w.heap.size B b) :
    Calls Try.prog 3 #[.slice A kl c, .int .i64 n, .slice B bl d] w (Says w true) := by
  by_cases h1 : 200 < kl
  · exact units_long HNE HE A B kl c bl d n w h1
  have h1' : kl ≤ 200 := by omega
  by_cases h2 : bl ≤ 100
  · by_cases ho : okX kl n bl
    · obtain ⟨rfl, hn, hb1, hb2, hb3⟩ := ho
      obtain ⟨m, rfl⟩ : ∃ m : Nat, n = (m : Int) := ⟨n.toNat, by omega⟩
      exact units_ok HNE HE HD A B c bl d (bl / 16) m k b w hk hkc hc hR (by omega) hb hbd hd hB (by omega) (by omega) h2
    · exact units_small HNE HND HE A B kl c bl d n k b w hk hkc hc hR hn1 hn2 hb hbd hd hB ho h1' h2
  have h2' : 100 < bl := by omega
  by_cases h3 : bl ≤ 1024
  · by_cases h4 : bl % 16 = 0
    · exact units_mid HNE HE A B kl c bl d n w h1' h2' h3 h4
    · exact units_odd HNE HND HE A B kl c bl d n k b w hk hkc hc hR hn1 hn2 hb hbd hd hB (fun ho => h4 ho.2.2.2.2) h1' h2' h3 h4
  · exact units_great HNE HND HE A B kl c bl d n k b w hk hkc hc hR hn1 hn2 hb hbd hd hB (fun ho => h3 ho.2.2.2.1) h1' (by omega)
end Go.Proofs.Ytbgbfofghhiolaa.S8
