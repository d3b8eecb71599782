/-
  The walk of OctetsXors.
-/
import Derived.Test.YtmcdidmfgjmhiaaXrf
import Derived.Test.YtmcdidmfgjmhiaaGrow
namespace Go.Proofs.Ytmcdidmfgjmhiaa
open Go.RowKit
set_option linter.unusedVariables false
set_option linter.unusedSimpArgs false

theorem xorL_back (a b : List UInt8) : xorL (xorL a b) b = a.take (min a.length b.length) := by
  apply List.ext_getElem
  · simp [xorL]
  · intro j h1 h2
    simp [xorL] at h1
    simp [xorL, UInt8.xor_assoc]
theorem take_back {w : World} {A : Option Addr} {a b : List UInt8} {n1 n2 B : Nat} (h : Rd w B A a) (h1 : a.length = n1) (h2 : b.length = n2) : Rd w B A (xorL (xorL a b) b) := by
  rw [xorL_back]; exact h.take _

theorem same_beq (A1 : Option Addr) (n1 c1 : Nat) (A2 : Option Addr) (n2 c2 : Nat) (a b : List UInt8) (w : World) (h1 : Rd w w.heap.size A1 a) (h2 : Rd w w.heap.size A2 b) (hn1 : a.length = n1) (hn2 : b.length = n2) (hl1 : n1 ≤ 1000000) (hl2 : n2 ≤ 1000000) :
    Calls Try.prog 15 #[.slice A1 n1 c1, .slice A2 n2 c2] w fun e w' => e = .returned (.bool (a == b)) ∧ w = w' := by
  have e : (a == b) = decide (a = b) := by rw [Bool.eq_iff_iff]; simp
  rw [e]
  exact same_any A1 n1 c1 A2 n2 c2 a b w h1 h2 hn1 hn2 hl1 hl2

set_option maxHeartbeats 800000 in
theorem xors_small (A1 : Option Addr) (n1 c1 : Nat) (A2 : Option Addr) (n2 c2 : Nat) (a b : List UInt8) (w : World) (h1 : Rd w w.heap.size A1 a) (h2 : Rd w w.heap.size A2 b) (hn1 : a.length = n1) (hn2 : b.length = n2) (hc1 : n1 ≤ c1) (hl1 : n1 ≤ 500) (hl2 : n2 ≤ 500) :
    Calls Try.prog 4 #[.slice A1 n1 c1, .slice A2 n2 c2] w (Says w true) := by
  have go : ∀ m : Nat, ((n1 < n2 ∧ m = n1) ∨ (n2 < n1 ∧ m = n2) ∨ (m = n1 ∧ m = n2)) → m ≤ c1 → (xorL a b).length = m → (xorL (xorL a b) b).length = m → Calls Try.prog 4 #[.slice A1 n1 c1, .slice A2 n2 c2] w (Says w true) := by
    intro m hm hmc hx hk
    have Hn1 := Lib.hid hn1
    have Hn2 := Lib.hid hn2
    have Hx := Lib.hid hx
    have Hk := Lib.hid hk
    clear hn1 hn2 hx hk
    have hmm : m ≤ 500 := by omega
    rcases hm with (⟨hle, rfl⟩ | ⟨hle, rfl⟩ | ⟨rfl, rfl⟩)
    all_goals
      go_enter Try.func4, Try.ntmps4
      go_wp2_with fail
      refine (awake_any _).mono ?_
      rintro e w1 ⟨rfl, hb1⟩
      have R1 := Lib.hid (h1.grow hb1)
      have R2 := Lib.hid (h2.grow hb1)
      have Hb1 := Lib.hid hb1
      clear hb1 h1 h2
      go_wp2_with fail
      refine (xor_any _ _ _ _ _ _ a b _ R1.out R2.out Hn1.out Hn2.out (by omega) (by omega)).mono ?_
      rintro e w2 ⟨Ax, cx, rfl, ho2, hb2⟩
      rw [Hx.out]
      have S1 := Lib.hid (R1.out.grow hb2)
      have S2 := Lib.hid (R2.out.grow hb2)
      have Sx := Lib.hid ho2.rd
      have Hb2 := Lib.hid (Grown.trans Hb1.out hb2)
      clear hb2 R1 R2 ho2 Hb1
      go_wp2_with fail
      refine rest_start (by kernel_rfl) fun v2 hv2 => ?_
      replace S1 := Lib.hid (S1.out.grow hv2)
      replace S2 := Lib.hid (S2.out.grow hv2)
      replace Sx := Lib.hid (Sx.out.grow hv2)
      replace Hb2 := Lib.hid (Grown.trans Hb2.out hv2)
      clear hv2
      refine rest_take (i := 0) rfl (by kernel_rfl) (by kernel_rfl) (by kernel_rfl) (by rfl) (fun w' hg => by go_simp; try with_reducible rfl) ?_
      try simp only [Act.put, List.setIfInBounds_toArray, List.set_cons_zero, List.set_cons_succ]
      refine rest_take (i := 1) rfl (by kernel_rfl) (by kernel_rfl) (by kernel_rfl) (by rfl) (fun w' hg => by have hcv := conv_at Sx.out Hx.out cx w' hg; go_simp; try with_reducible rfl) ?_
      try simp only [Act.put, List.setIfInBounds_toArray, List.set_cons_zero, List.set_cons_succ]
      refine rest_take (i := 2) rfl (by kernel_rfl) (by kernel_rfl) (by kernel_rfl) (by rfl) (fun w' hg => by go_simp; try with_reducible rfl) ?_
      try simp only [Act.put, List.setIfInBounds_toArray, List.set_cons_zero, List.set_cons_succ]
      refine rest_take (i := 3) rfl (by kernel_rfl) (by kernel_rfl) (by kernel_rfl) (by rfl) (fun w' hg => by go_simp; try with_reducible rfl) ?_
      try simp only [Act.put, List.setIfInBounds_toArray, List.set_cons_zero, List.set_cons_succ]
      refine rest_lone (i := 4) rfl (by kernel_rfl) (by rfl) (fun K hK => ?_)
      go_simp
      refine (refXor_any _ _ _ _ _ _ a b _ S1.out S2.out Hn1.out Hn2.out (by omega) (by omega)).mono ?_
      rintro e v3 ⟨A3, c3, rfl, ho3, hb3⟩
      refine hK.out _ _ hb3 ?_
      replace S1 := Lib.hid (S1.out.grow hb3)
      replace S2 := Lib.hid (S2.out.grow hb3)
      replace Sx := Lib.hid (Sx.out.grow hb3)
      have S3 := Lib.hid ho3.rd
      replace Hb2 := Lib.hid (Grown.trans Hb2.out hb3)
      clear hb3 ho3
      clear hK K
      try simp only [Act.put, List.setIfInBounds_toArray, List.set_cons_zero, List.set_cons_succ]
      refine rest_take (i := 5) rfl (by kernel_rfl) (by kernel_rfl) (by kernel_rfl) (by rfl) (fun w' hg => by have hcv := conv_at S3.out rfl c3 w' hg; go_simp; try with_reducible rfl) ?_
      try simp only [Act.put, List.setIfInBounds_toArray, List.set_cons_zero, List.set_cons_succ]
      refine rest_take (i := 6) rfl (by kernel_rfl) (by kernel_rfl) (by kernel_rfl) (by rfl) (fun w' hg => by go_simp; try with_reducible rfl) ?_
      try simp only [Act.put, List.setIfInBounds_toArray, List.set_cons_zero, List.set_cons_succ]
      refine rest_take (i := 7) rfl (by kernel_rfl) (by kernel_rfl) (by kernel_rfl) (by rfl) (fun w' hg => by go_simp; try with_reducible rfl) ?_
      try simp only [Act.put, List.setIfInBounds_toArray, List.set_cons_zero, List.set_cons_succ]
      refine rest_take (i := 8) rfl (by kernel_rfl) (by kernel_rfl) (by kernel_rfl) (by rfl) (fun w' hg => by go_simp; try with_reducible rfl) ?_
      try simp only [Act.put, List.setIfInBounds_toArray, List.set_cons_zero, List.set_cons_succ]
      refine rest_take (i := 9) rfl (by kernel_rfl) (by kernel_rfl) (by kernel_rfl) (by rfl) (fun w' hg => by go_simp; try with_reducible rfl) ?_
      try simp only [Act.put, List.setIfInBounds_toArray, List.set_cons_zero, List.set_cons_succ]
      refine rest_take (i := 12) rfl (by kernel_rfl) (by kernel_rfl) (by kernel_rfl) (by rfl) (fun w' hg => by go_simp; try with_reducible rfl) ?_
      try simp only [Act.put, List.setIfInBounds_toArray, List.set_cons_zero, List.set_cons_succ]
      refine rest_take (i := 13) rfl (by kernel_rfl) (by kernel_rfl) (by kernel_rfl) (by rfl) (fun w' hg => by go_simp; try with_reducible rfl) ?_
      try simp only [Act.put, List.setIfInBounds_toArray, List.set_cons_zero, List.set_cons_succ]
      refine rest_take (i := 14) rfl (by kernel_rfl) (by kernel_rfl) (by kernel_rfl) (by rfl) (fun w' hg => by go_simp; try with_reducible rfl) ?_
      try simp only [Act.put, List.setIfInBounds_toArray, List.set_cons_zero, List.set_cons_succ]
      refine rest_take (i := 15) rfl (by kernel_rfl) (by kernel_rfl) (by kernel_rfl) (by rfl) (fun w' hg => by have hcv := conv_at (take_back S1.out Hn1.out Hn2.out) Hk.out c1 w' hg; go_simp; try with_reducible rfl) ?_
      try simp only [Act.put, List.setIfInBounds_toArray, List.set_cons_zero, List.set_cons_succ]
      refine rest_lone (i := 10) rfl (by kernel_rfl) (by rfl) (fun K hK => ?_)
      go_simp
      refine (xor_any _ _ _ _ _ _ (xorL a b) b _ Sx.out S2.out Hx.out Hn2.out (by omega) (by omega)).mono ?_
      rintro e v4 ⟨A4, c4, rfl, ho4, hb4⟩
      refine hK.out _ _ hb4 ?_
      replace S1 := Lib.hid (S1.out.grow hb4)
      replace S2 := Lib.hid (S2.out.grow hb4)
      have S4 := Lib.hid ho4.rd
      replace Hb2 := Lib.hid (Grown.trans Hb2.out hb4)
      clear hb4 ho4
      clear hK K
      try simp only [Act.put, List.setIfInBounds_toArray, List.set_cons_zero, List.set_cons_succ]
      refine rest_take (i := 11) rfl (by kernel_rfl) (by kernel_rfl) (by kernel_rfl) (by rfl) (fun w' hg => by have hcv := conv_at S4.out rfl c4 w' hg; go_simp; try with_reducible rfl) ?_
      try simp only [Act.put, List.setIfInBounds_toArray, List.set_cons_zero, List.set_cons_succ]
      refine rest_take (i := 16) rfl (by kernel_rfl) (by kernel_rfl) (by kernel_rfl) (by rfl) (fun w' hg => by go_simp; try with_reducible rfl) ?_
      try simp only [Act.put, List.setIfInBounds_toArray, List.set_cons_zero, List.set_cons_succ]
      refine rest_take (i := 17) rfl (by kernel_rfl) (by kernel_rfl) (by kernel_rfl) (by rfl) (fun w' hg => by go_simp; try with_reducible rfl) ?_
      try simp only [Act.put, List.setIfInBounds_toArray, List.set_cons_zero, List.set_cons_succ]
      refine rest_take (i := 18) rfl (by kernel_rfl) (by kernel_rfl) (by kernel_rfl) (by rfl) (fun w' hg => by go_simp; try with_reducible rfl) ?_
      try simp only [Act.put, List.setIfInBounds_toArray, List.set_cons_zero, List.set_cons_succ]
      refine rest_take (i := 19) rfl (by kernel_rfl) (by kernel_rfl) (by kernel_rfl) (by rfl) (fun w' hg => by go_simp; try with_reducible rfl) ?_
      try simp only [Act.put, List.setIfInBounds_toArray, List.set_cons_zero, List.set_cons_succ]
      refine rest_take (i := 20) rfl (by kernel_rfl) (by kernel_rfl) (by kernel_rfl) (by rfl) (fun w' hg => by go_simp; try with_reducible rfl) ?_
      try simp only [Act.put, List.setIfInBounds_toArray, List.set_cons_zero, List.set_cons_succ]
      refine rest_take (i := 22) rfl (by kernel_rfl) (by kernel_rfl) (by kernel_rfl) (by rfl) (fun w' hg => by go_simp; try with_reducible rfl) ?_
      try simp only [Act.put, List.setIfInBounds_toArray, List.set_cons_zero, List.set_cons_succ]
      refine rest_take (i := 23) rfl (by kernel_rfl) (by kernel_rfl) (by kernel_rfl) (by rfl) (fun w' hg => by have hcv := conv_at S1.out Hn1.out c1 w' hg; go_simp; try with_reducible rfl) ?_
      try simp only [Act.put, List.setIfInBounds_toArray, List.set_cons_zero, List.set_cons_succ]
      refine rest_take (i := 24) rfl (by kernel_rfl) (by kernel_rfl) (by kernel_rfl) (by rfl) (fun w' hg => by go_simp; try with_reducible rfl) ?_
      try simp only [Act.put, List.setIfInBounds_toArray, List.set_cons_zero, List.set_cons_succ]
      refine rest_take (i := 25) rfl (by kernel_rfl) (by kernel_rfl) (by kernel_rfl) (by rfl) (fun w' hg => by have hcv := conv_at S2.out Hn2.out c2 w' hg; go_simp; try with_reducible rfl) ?_
      try simp only [Act.put, List.setIfInBounds_toArray, List.set_cons_zero, List.set_cons_succ]
      refine rest_take (i := 26) rfl (by kernel_rfl) (by kernel_rfl) (by kernel_rfl) (by rfl) (fun w' hg => by go_simp; try with_reducible rfl) ?_
      try simp only [Act.put, List.setIfInBounds_toArray, List.set_cons_zero, List.set_cons_succ]
      refine rest_lone (i := 21) rfl (by kernel_rfl) (by rfl) (fun K hK => ?_)
      go_simp
      refine (same_beq _ _ _ _ _ _ a b _ S1.out S2.out Hn1.out Hn2.out (by omega) (by omega)).mono ?_
      rintro e v5 ⟨rfl, rfl⟩
      refine hK.out _ _ (Grown.refl _) ?_
      clear hK K
      try simp only [Act.put, List.setIfInBounds_toArray, List.set_cons_zero, List.set_cons_succ]
      refine rest_take (i := 27) rfl (by kernel_rfl) (by kernel_rfl) (by kernel_rfl) (by rfl) (fun w' hg => by go_simp; try with_reducible rfl) ?_
      try simp only [Act.put, List.setIfInBounds_toArray, List.set_cons_zero, List.set_cons_succ]
      refine rest_take (i := 28) rfl (by kernel_rfl) (by kernel_rfl) (by kernel_rfl) (by rfl) (fun w' hg => by go_simp; try with_reducible rfl) ?_
      try simp only [Act.put, List.setIfInBounds_toArray, List.set_cons_zero, List.set_cons_succ]
      refine rest_take (i := 29) rfl (by kernel_rfl) (by kernel_rfl) (by kernel_rfl) (by rfl) (fun w' hg => by go_simp; try with_reducible rfl) ?_
      try simp only [Act.put, List.setIfInBounds_toArray, List.set_cons_zero, List.set_cons_succ]
      refine rest_take (i := 30) rfl (by kernel_rfl) (by kernel_rfl) (by kernel_rfl) (by rfl) (fun w' hg => by go_simp; try with_reducible rfl) ?_
      try simp only [Act.put, List.setIfInBounds_toArray, List.set_cons_zero, List.set_cons_succ]
      refine rest_take (i := 32) rfl (by kernel_rfl) (by kernel_rfl) (by kernel_rfl) (by rfl) (fun w' hg => by go_simp; try with_reducible rfl) ?_
      try simp only [Act.put, List.setIfInBounds_toArray, List.set_cons_zero, List.set_cons_succ]
      refine rest_lone (i := 31) rfl (by kernel_rfl) (by rfl) (fun K hK => ?_)
      go_simp
      refine hK.out _ _ (alloc_below _ _) ?_
      replace S1 := Lib.hid (S1.out.grow (alloc_below _ (.cells #[] 5)))
      replace Hb2 := Lib.hid (Grown.trans Hb2.out (alloc_below _ (.cells #[] 5)))
      clear hK K
      try simp only [Act.put, List.setIfInBounds_toArray, List.set_cons_zero, List.set_cons_succ]
      refine rest_lone (i := 33) rfl (by kernel_rfl) (by rfl) (fun K hK => ?_)
      refine wp_app0 (.tmp 59) (.tmp 60) rfl rfl rfl Hn1.out S1.out (by omega) ?_
      intro A6 c6 v6 ho6 hc6 hb6
      refine hK.out _ _ hb6 ?_
      replace S1 := Lib.hid (S1.out.grow hb6)
      have S6 := Lib.hid ho6
      replace Hb2 := Lib.hid (Grown.trans Hb2.out hb6)
      clear ho6 hb6
      clear hK K
      try simp only [Act.put, List.setIfInBounds_toArray, List.set_cons_zero, List.set_cons_succ]
      refine rest_lone (i := 34) rfl (by kernel_rfl) (by rfl) (fun K hK => ?_)
      go_simp
      refine (same_beq _ _ _ _ _ _ a a _ S1.out S6.out Hn1.out Hn1.out (by omega) (by omega)).mono ?_
      rintro e v7 ⟨rfl, rfl⟩
      rw [beq_self_eq_true]
      refine hK.out _ _ (Grown.refl _) ?_
      clear hK K
      try simp only [Act.put, List.setIfInBounds_toArray, List.set_cons_zero, List.set_cons_succ]
      refine rest_take (i := 35) rfl (by kernel_rfl) (by kernel_rfl) (by kernel_rfl) (by rfl) (fun w' hg => by go_simp; try with_reducible rfl) ?_
      try simp only [Act.put, List.setIfInBounds_toArray, List.set_cons_zero, List.set_cons_succ]
      refine rest_take (i := 36) rfl (by kernel_rfl) (by kernel_rfl) (by kernel_rfl) (by rfl) (fun w' hg => by go_simp; try with_reducible rfl) ?_
      try simp only [Act.put, List.setIfInBounds_toArray, List.set_cons_zero, List.set_cons_succ]
      refine rest_done (by kernel_rfl) ?_
      go_wp2
      go_ret
      exact ⟨rfl, Hb2.out⟩
  exact go (min n1 n2) (by omega) (by omega) (by rw [xorL_len, hn1, hn2]) (by rw [xorL_back]; simp; omega)

set_option maxHeartbeats 1000000 in
theorem xors_great (A1 : Option Addr) (n1 c1 : Nat) (A2 : Option Addr) (n2 c2 : Nat) (w : World) (hm1 : n1 ≤ 9223372036854775807) (hm2 : n2 ≤ 9223372036854775807) (h : 500 < n1 ∨ (n1 ≤ 500 ∧ 500 < n2)) :
    Calls Try.prog 4 #[.slice A1 n1 c1, .slice A2 n2 c2] w (Says w true) := by
  rcases h with h | ⟨h, h'⟩
  all_goals
    go_enter Try.func4, Try.ntmps4
    go_wp2_with fail
    refine (awake_any _).mono ?_
    rintro e w1 ⟨rfl, hb1⟩
    have Hb1 := Lib.hid hb1
    clear hb1
    go_wp2_with fail
    refine (awake_any _).mono ?_
    rintro e w2 ⟨rfl, hb2⟩
    have Hb2 := Lib.hid hb2
    clear hb2
    go_wp2
    go_ret
    exact ⟨rfl, Grown.trans Hb1.out Hb2.out⟩

theorem xors_walk (A1 : Option Addr) (n1 c1 : Nat) (A2 : Option Addr) (n2 c2 : Nat) (a b : List UInt8) (w : World) (h1 : Rd w w.heap.size A1 a) (h2 : Rd w w.heap.size A2 b) (hn1 : a.length = n1) (hn2 : b.length = n2) (hc1 : n1 ≤ c1) (hm1 : n1 ≤ maxLen) (hm2 : n2 ≤ maxLen) :
    Calls Try.prog 4 #[.slice A1 n1 c1, .slice A2 n2 c2] w (Says w true) := by
  unfold maxLen at hm1 hm2
  by_cases hl1 : n1 ≤ 500
  · by_cases hl2 : n2 ≤ 500
    · exact xors_small A1 n1 c1 A2 n2 c2 a b w h1 h2 hn1 hn2 hc1 hl1 hl2
    · exact xors_great A1 n1 c1 A2 n2 c2 w (by omega) (by omega) (.inr ⟨hl1, by omega⟩)
  · exact xors_great A1 n1 c1 A2 n2 c2 w (by omega) (by omega) (.inl (by omega))

end Go.Proofs.Ytmcdidmfgjmhiaa
