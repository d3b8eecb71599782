/-
  The walk of OctetsNumbers.
-/
import Derived.Test.YtmcdidmfgjmhiaaLrf
import Derived.Test.YtmcdidmfgjmhiaaNum
import Derived.Test.YtmcdidmfgjmhiaaAwk
import Derived.Test.YtmcdidmfgjmhiaaGrow
namespace Go.Proofs.Ytmcdidmfgjmhiaa
open Go.RowKit
set_option linter.unusedVariables false
set_option linter.unusedSimpArgs false

theorem numN_cons (x : UInt8) (l : List UInt8) : numN (x :: l) = x.toNat * 256 ^ l.length + numN l := by
  have gen : ∀ (l : List UInt8) (c : Nat), l.foldl (fun n x => n * 256 + x.toNat) c = c * 256 ^ l.length + numN l := by
    intro l
    induction l with
    | nil => intro c; simp [numN]
    | cons y l ih =>
      intro c
      simp only [List.foldl_cons, List.length_cons, numN]
      rw [ih (c * 256 + y.toNat), ih (0 * 256 + y.toNat)]
      rw [Nat.pow_succ, Nat.add_mul, Nat.mul_assoc, Nat.mul_comm 256, Nat.zero_mul, Nat.zero_add]
      omega
  show (x :: l).foldl _ 0 = _
  rw [List.foldl_cons, gen]
  simp
theorem mod_step (n : Int) (k : Nat) (hk : k < 8) : n % 256 ^ (k + 1) = n / 2 ^ (8 * k) % 256 * 256 ^ k + n % 256 ^ k := by
  rcases k with _ | _ | _ | _ | _ | _ | _ | _ | k
  all_goals first | omega | (simp; omega)
theorem numN_layL (n : Int) (k : Nat) (hk : k ≤ 8) : (numN (layL n k) : Int) = n % 256 ^ k := by
  induction k with
  | zero => simp [layL, numN]
  | succ k ih =>
    rw [← layL_succ, List.singleton_append, numN_cons, layL_len, mod_step n k (by omega), ← ih (by omega)]
    have h := bv_byteOf n k
    unfold bv at h
    injection h with _ h
    rw [← h]
    simp
theorem back8 (n : Int) (h1 : -9223372036854775808 ≤ n) (h2 : n ≤ 9223372036854775807) : wrap64 (numN (layL n 8) : Int) = n := by
  rw [numN_layL n 8 (by omega)]
  unfold wrap64
  omega
theorem backk (n : Int) (k : Nat) (hk : k < 8) (h1 : 0 ≤ n) (h2 : n ≤ 9223372036854775807) (h3 : n / 2 ^ (8 * k) = 0) : wrap64 (numN (layL n k) : Int) = n := by
  rw [numN_layL n k (by omega)]
  unfold wrap64
  rcases k with _ | _ | _ | _ | _ | _ | _ | _ | k
  all_goals first | omega | (simp at h3 ⊢; omega)

theorem number_at (A : Option Addr) (n c : Nat) (l : List UInt8) (w : World) (h : Rd w w.heap.size A l) (hn : l.length = n) (hl : n ≤ 1000000) :
    Calls Try.prog 11 #[.slice A n c] w fun e w' => e = .returned (.int .i64 (wrap64 (numN l : Int))) ∧ w = w' := by
  subst hn; exact number_any A c l w _ h hl
theorem refNumber_at (A : Option Addr) (n c : Nat) (l : List UInt8) (w : World) (h : Rd w w.heap.size A l) (hn : l.length = n) (hl : n ≤ 1000000) :
    Calls Try.prog 12 #[.slice A n c] w fun e w' => e = .returned (.int .i64 (wrap64 (numN l : Int))) ∧ w = w' := by
  subst hn; exact refNumber_any A c l w _ h hl

set_option maxHeartbeats 3000000 in
theorem numbers_small (n size : Int) (k : Nat) (A : Option Addr) (m c : Nat) (l : List UInt8) (w : World) (hk : k ≤ 8) (h : (size < 0 ∧ k = 0) ∨ size = (k : Int) ∨ (8 < size ∧ k = 8)) (hb : Rd w w.heap.size A l) (hm : l.length = m) (hl : m ≤ 100)
    (h1 : -9223372036854775808 ≤ n) (h2 : n ≤ 9223372036854775807) :
    Calls Try.prog 3 #[.int .i64 n, .int .i64 size, .slice A m c] w (Says w true) := by
  have hlay := fun W => lay_any n size k W hk h
  have href := fun W => refLay_any n size k W hk h
  have hlay8 : ∀ W : World, Calls Try.prog 9 #[.int .i64 n, .int .i64 8] W (Makes W (layL n 8)) := fun W => lay_any n 8 8 W (by omega) (.inr (.inl rfl))
  have Hlay := Lib.hid hlay
  have Href := Lib.hid href
  have Hlay8 := Lib.hid hlay8
  have Hm := Lib.hid hm
  clear hlay href hlay8 hm
  have h' : (size < 0 ∧ k = 0) ∨ (size = 0 ∧ k = 0) ∨ (size = (k : Int) ∧ 0 < k ∧ k < 8) ∨ (size = 8 ∧ k = 8) ∨ (8 < size ∧ k = 8) := by omega
  clear h
  rcases h' with ⟨hs, rfl⟩ | ⟨rfl, rfl⟩ | ⟨rfl, hk0, hk8⟩ | ⟨rfl, rfl⟩ | ⟨hs, rfl⟩
  all_goals
    go_enter Try.func3, Try.ntmps3
    go_wp2_with fail
    refine (awake_any _).mono ?_
    rintro e w1 ⟨rfl, hb1⟩
    have S1 := Lib.hid (hb.grow hb1)
    have Hb := Lib.hid hb1
    clear hb1 hb
    go_wp2_with fail
    refine (Hlay.out _).mono ?_
    rintro e w2 ⟨Ax, cx, rfl, ho2, hb2⟩
    rw [layL_len]
    replace S1 := Lib.hid (S1.out.grow hb2)
    have Sx := Lib.hid ho2.rd
    replace Hb := Lib.hid (Grown.trans Hb.out hb2)
    clear hb2 ho2
    go_wp2_with fail
    refine rest_start (by kernel_rfl) fun v2 hv2 => ?_
    replace S1 := Lib.hid (S1.out.grow hv2)
    replace Sx := Lib.hid (Sx.out.grow hv2)
    replace Hb := Lib.hid (Grown.trans Hb.out hv2)
    clear hv2
    refine rest_take (i := 0) rfl (by kernel_rfl) (by kernel_rfl) (by kernel_rfl) (by rfl) (fun w' hg => by go_simp; try with_reducible rfl) ?_
    try simp only [Act.put, List.setIfInBounds_toArray, List.set_cons_zero, List.set_cons_succ]
    refine rest_take (i := 1) rfl (by kernel_rfl) (by kernel_rfl) (by kernel_rfl) (by rfl) (fun w' hg => by have hcv := conv_at Sx.out (layL_len _ _) cx w' hg; go_simp; try with_reducible rfl) ?_
    try simp only [Act.put, List.setIfInBounds_toArray, List.set_cons_zero, List.set_cons_succ]
    refine rest_take (i := 2) rfl (by kernel_rfl) (by kernel_rfl) (by kernel_rfl) (by rfl) (fun w' hg => by go_simp; try with_reducible rfl) ?_
    try simp only [Act.put, List.setIfInBounds_toArray, List.set_cons_zero, List.set_cons_succ]
    refine rest_take (i := 3) rfl (by kernel_rfl) (by kernel_rfl) (by kernel_rfl) (by rfl) (fun w' hg => by go_simp; try with_reducible rfl) ?_
    try simp only [Act.put, List.setIfInBounds_toArray, List.set_cons_zero, List.set_cons_succ]
    refine rest_lone (i := 4) rfl (by kernel_rfl) (by rfl) (fun K hK => ?_)
    go_simp
    refine (Href.out _).mono ?_
    rintro e v3 ⟨A3, c3, rfl, ho3, hb3⟩
    rw [layL_len]
    refine hK.out _ _ hb3 ?_
    replace S1 := Lib.hid (S1.out.grow hb3)
    replace Sx := Lib.hid (Sx.out.grow hb3)
    have S3 := Lib.hid ho3.rd
    replace Hb := Lib.hid (Grown.trans Hb.out hb3)
    clear hb3 ho3
    clear hK K
    try simp only [Act.put, List.setIfInBounds_toArray, List.set_cons_zero, List.set_cons_succ]
    refine rest_take (i := 5) rfl (by kernel_rfl) (by kernel_rfl) (by kernel_rfl) (by rfl) (fun w' hg => by have hcv := conv_at S3.out (layL_len _ _) c3 w' hg; go_simp; try with_reducible rfl) ?_
    try simp only [Act.put, List.setIfInBounds_toArray, List.set_cons_zero, List.set_cons_succ]
    refine rest_take (i := 6) rfl (by kernel_rfl) (by kernel_rfl) (by kernel_rfl) (by rfl) (fun w' hg => by go_simp; try with_reducible rfl) ?_
    try simp only [Act.put, List.setIfInBounds_toArray, List.set_cons_zero, List.set_cons_succ]
    refine rest_take (i := 7) rfl (by kernel_rfl) (by kernel_rfl) (by kernel_rfl) (by rfl) (fun w' hg => by go_simp; try with_reducible rfl) ?_
    try simp only [Act.put, List.setIfInBounds_toArray, List.set_cons_zero, List.set_cons_succ]
    refine rest_take (i := 8) rfl (by kernel_rfl) (by kernel_rfl) (by kernel_rfl) (by rfl) (fun w' hg => by go_simp; try with_reducible rfl) ?_
    try simp only [Act.put, List.setIfInBounds_toArray, List.set_cons_zero, List.set_cons_succ]
    refine rest_take (i := 9) rfl (by kernel_rfl) (by kernel_rfl) (by kernel_rfl) (by rfl) (fun w' hg => by go_simp; try with_reducible rfl) ?_
    try simp only [Act.put, List.setIfInBounds_toArray, List.set_cons_zero, List.set_cons_succ]
    refine rest_take (i := 10) rfl (by kernel_rfl) (by kernel_rfl) (by kernel_rfl) (by rfl) (fun w' hg => by go_simp; try with_reducible rfl) ?_
    try simp only [Act.put, List.setIfInBounds_toArray, List.set_cons_zero, List.set_cons_succ]
    refine rest_take (i := 11) rfl (by kernel_rfl) (by kernel_rfl) (by kernel_rfl) (by rfl) (fun w' hg => by go_simp; try with_reducible rfl) ?_
    try simp only [Act.put, List.setIfInBounds_toArray, List.set_cons_zero, List.set_cons_succ]
    refine rest_take (i := 12) rfl (by kernel_rfl) (by kernel_rfl) (by kernel_rfl) (by rfl) (fun w' hg => by go_simp; try with_reducible rfl) ?_
    try simp only [Act.put, List.setIfInBounds_toArray, List.set_cons_zero, List.set_cons_succ]
    refine rest_take (i := 13) rfl (by kernel_rfl) (by kernel_rfl) (by kernel_rfl) (by rfl) (fun w' hg => by go_simp; try with_reducible rfl) ?_
    try simp only [Act.put, List.setIfInBounds_toArray, List.set_cons_zero, List.set_cons_succ]
    refine rest_take (i := 14) rfl (by kernel_rfl) (by kernel_rfl) (by kernel_rfl) (by rfl) (fun w' hg => by go_simp; try with_reducible rfl) ?_
    try simp only [Act.put, List.setIfInBounds_toArray, List.set_cons_zero, List.set_cons_succ]
    refine rest_take (i := 16) rfl (by kernel_rfl) (by kernel_rfl) (by kernel_rfl) (by rfl) (fun w' hg => by go_simp; try with_reducible rfl) ?_
    try simp only [Act.put, List.setIfInBounds_toArray, List.set_cons_zero, List.set_cons_succ]
    refine rest_lone (i := 15) rfl (by kernel_rfl) (by rfl) (fun K hK => ?_)
    go_simp
    refine (number_at _ _ _ l _ S1.out Hm.out (by omega)).mono ?_
    rintro e v4 ⟨rfl, rfl⟩
    refine hK.out _ _ (Grown.refl _) ?_
    clear hK K
    try simp only [Act.put, List.setIfInBounds_toArray, List.set_cons_zero, List.set_cons_succ]
    refine rest_lone (i := 17) rfl (by kernel_rfl) (by rfl) (fun K hK => ?_)
    go_simp
    refine (refNumber_at _ _ _ l _ S1.out Hm.out (by omega)).mono ?_
    rintro e v5 ⟨rfl, rfl⟩
    refine hK.out _ _ (Grown.refl _) ?_
    clear hK K
    try simp only [Act.put, List.setIfInBounds_toArray, List.set_cons_zero, List.set_cons_succ]
    refine rest_take (i := 18) rfl (by kernel_rfl) (by kernel_rfl) (by kernel_rfl) (by rfl) (fun w' hg => by go_simp; try with_reducible rfl) ?_
    try simp only [Act.put, List.setIfInBounds_toArray, List.set_cons_zero, List.set_cons_succ]
    refine rest_take (i := 19) rfl (by kernel_rfl) (by kernel_rfl) (by kernel_rfl) (by rfl) (fun w' hg => by go_simp; try with_reducible rfl) ?_
    try simp only [Act.put, List.setIfInBounds_toArray, List.set_cons_zero, List.set_cons_succ]
    refine rest_take (i := 20) rfl (by kernel_rfl) (by kernel_rfl) (by kernel_rfl) (by rfl) (fun w' hg => by go_simp; try with_reducible rfl) ?_
    try simp only [Act.put, List.setIfInBounds_toArray, List.set_cons_zero, List.set_cons_succ]
    refine rest_take (i := 21) rfl (by kernel_rfl) (by kernel_rfl) (by kernel_rfl) (by rfl) (fun w' hg => by go_simp; try with_reducible rfl) ?_
    try simp only [Act.put, List.setIfInBounds_toArray, List.set_cons_zero, List.set_cons_succ]
    refine rest_take (i := 24) rfl (by kernel_rfl) (by kernel_rfl) (by kernel_rfl) (by rfl) (fun w' hg => by go_simp; try with_reducible rfl) ?_
    try simp only [Act.put, List.setIfInBounds_toArray, List.set_cons_zero, List.set_cons_succ]
    refine rest_lone (i := 22) rfl (by kernel_rfl) (by rfl) (fun K hK => ?_)
    go_simp
    refine (Hlay8.out _).mono ?_
    rintro e v6 ⟨A6, c6, rfl, ho6, hb6⟩
    rw [layL_len]
    refine hK.out _ _ hb6 ?_
    replace Sx := Lib.hid (Sx.out.grow hb6)
    have S6 := Lib.hid ho6.rd
    replace Hb := Lib.hid (Grown.trans Hb.out hb6)
    clear hb6 ho6
    clear hK K
    try simp only [Act.put, List.setIfInBounds_toArray, List.set_cons_zero, List.set_cons_succ]
    refine rest_lone (i := 23) rfl (by kernel_rfl) (by rfl) (fun K hK => ?_)
    go_simp
    refine (number_at _ _ _ (layL n 8) _ S6.out (layL_len _ _) (by omega)).mono ?_
    rintro e v7 ⟨rfl, rfl⟩
    rw [back8 n h1 h2]
    refine hK.out _ _ (Grown.refl _) ?_
    clear hK K
    try simp only [Act.put, List.setIfInBounds_toArray, List.set_cons_zero, List.set_cons_succ]
    refine rest_take (i := 25) rfl (by kernel_rfl) (by kernel_rfl) (by kernel_rfl) (by rfl) (fun w' hg => by go_simp; try with_reducible rfl) ?_
    try simp only [Act.put, List.setIfInBounds_toArray, List.set_cons_zero, List.set_cons_succ]
    refine rest_take (i := 26) rfl (by kernel_rfl) (by kernel_rfl) (by kernel_rfl) (by rfl) (fun w' hg => by go_simp; try with_reducible rfl) ?_
    try simp only [Act.put, List.setIfInBounds_toArray, List.set_cons_zero, List.set_cons_succ]
    refine rest_done (by kernel_rfl) ?_
  · go_wp2_with fail
    · have hz : n = 0 := by assumption
      refine (number_at _ _ _ (layL n 0) _ Sx.out (layL_len _ _) (by omega)).mono ?_
      rintro e v7 ⟨rfl, rfl⟩
      rw [backk n 0 (by omega) (by omega) h2 (by rw [hz]; rfl)]
      go_wp2
      go_ret
      exact ⟨rfl, Hb.out⟩
    all_goals
      go_ret
      exact ⟨rfl, Hb.out⟩
  · go_wp2_with fail
    · have hz : n = 0 := by assumption
      refine (number_at _ _ _ (layL n 0) _ Sx.out (layL_len _ _) (by omega)).mono ?_
      rintro e v7 ⟨rfl, rfl⟩
      rw [backk n 0 (by omega) (by omega) h2 (by rw [hz]; rfl)]
      go_wp2
      go_ret
      exact ⟨rfl, Hb.out⟩
    all_goals
      go_ret
      exact ⟨rfl, Hb.out⟩
  · go_wp2_with fail
    · have hz : n / 2 ^ (8 * k) = 0 := by assumption
      have hnn : 0 ≤ n := by assumption
      refine (number_at _ _ _ (layL n k) _ Sx.out (layL_len _ _) (by omega)).mono ?_
      rintro e v7 ⟨rfl, rfl⟩
      rw [backk n k hk8 hnn h2 hz]
      go_wp2
      go_ret
      exact ⟨rfl, Hb.out⟩
    all_goals
      go_ret
      exact ⟨rfl, Hb.out⟩
  · go_wp2_with fail
    go_ret
    exact ⟨rfl, Hb.out⟩
  · go_wp2_with fail
    go_ret
    exact ⟨rfl, Hb.out⟩

set_option maxHeartbeats 1000000 in
theorem numbers_great (n size : Int) (A : Option Addr) (m c : Nat) (w : World) (hm : m ≤ 9223372036854775807) (h : 100 < m) :
    Calls Try.prog 3 #[.int .i64 n, .int .i64 size, .slice A m c] w (Says w true) := by
  go_enter Try.func3, Try.ntmps3
  go_wp2_with fail
  refine (awake_any _).mono ?_
  rintro e w1 ⟨rfl, hb1⟩
  have Hb1 := Lib.hid hb1
  clear hb1
  go_wp2_with fail
  refine (awake_any _).mono ?_
  rintro e w2 ⟨rfl, hb2⟩
  have Hb2 := Lib.hid hb2
  clear hb2
  go_wp2
  go_ret
  exact ⟨rfl, Grown.trans Hb1.out Hb2.out⟩

theorem numbers_walk (n size : Int) (A : Option Addr) (m c : Nat) (l : List UInt8) (w : World) (hb : Rd w w.heap.size A l) (hm : l.length = m) (hl : m ≤ maxLen)
    (h1 : -9223372036854775808 ≤ n) (h2 : n ≤ 9223372036854775807) :
    Calls Try.prog 3 #[.int .i64 n, .int .i64 size, .slice A m c] w (Says w true) := by
  unfold maxLen at hl
  by_cases hs : m ≤ 100
  · exact numbers_small n size (min (max size 0) 8).toNat A m c l w (by omega) (by omega) hb hm hs h1 h2
  · exact numbers_great n size A m c w (by omega) (by omega)

end Go.Proofs.Ytmcdidmfgjmhiaa
