/-
  The laws of dev: DevOff.
-/
import Derived.Test.YteigfpgdnfladaaDvA
namespace Go.Proofs.Yteigfpgdnfladaa.S13
open Cf
open Go.RowKit
set_option linter.unusedVariables false
set_option linter.unusedSimpArgs false
section
variable {D : DTab}
def o1 : Dv := (dvWrite (dvNew 2) 0 [97, 98]).2
def o2 : Dv := (dvFlush o1).2
/-- Behind so many writes that were done, of k that may be. -/
def oW (b : List UInt8) (k j : Nat) : Dv := ⟨o2.kept, List.replicate j (1, pad512 b), 0, ((k - j : Nat) : Int)⟩
theorem oW_limit (b : List UInt8) (k : Nat) : dvLimit o2 (k : Int) = oW b k 0 := by
  unfold dvLimit oW
  rw [if_neg (by omega)]
  rfl
theorem o2_two : o2.kept.length = 2 := by decide +kernel
theorem oW_on (b : List UInt8) (k j : Nat) (hj : j < k) (hb : b.length ≤ 512) : dvWrite (oW b k j) 1 b = (0, oW b k (j + 1)) := by
  unfold dvWrite
  rw [if_neg (by unfold inR; show ¬ (¬ (_ ∧ (1 : Int) < (o2.kept.length : Int)) ∨ _); rw [o2_two]; omega), if_pos (by unfold isOn; show decide (((k - j : Nat) : Int) ≠ 0) = true; exact decide_eq_true (by omega))]
  unfold S13.tick
  rw [if_pos (by show 0 < ((k - j : Nat) : Int); omega)]
  show (0, Dv.mk _ _ _ _) = (0, oW b k (j + 1))
  unfold oW
  rw [List.replicate_succ']
  congr 2
  show ((k - j : Nat) : Int) - 1 = _
  omega
theorem oW_off (b : List UInt8) (k : Nat) (hb : b.length ≤ 512) : dvWrite (oW b k k) 1 b = (10, oW b k k) := by
  unfold dvWrite
  rw [if_neg (by unfold inR; show ¬ (¬ (_ ∧ (1 : Int) < (o2.kept.length : Int)) ∨ _); rw [o2_two]; omega), if_neg (by unfold isOn; show ¬ decide (((k - k : Nat) : Int) ≠ 0) = true; simp)]
theorem oW_isOff (b : List UInt8) (k : Nat) : isOn (oW b k k) = false := by unfold isOn; exact decide_eq_false (by show ¬ ((k - k : Nat) : Int) ≠ 0; simp)
theorem oW_read (b : List UInt8) (k : Nat) : dvRead (oW b k k) 0 = ([], 10, oW b k k) := by
  unfold dvRead
  rw [if_neg (by unfold inR; show ¬ ¬ (_ ∧ (0 : Int) < (o2.kept.length : Int)); rw [o2_two]; omega), oW_isOff]
  rfl
theorem oW_flush (b : List UInt8) (k : Nat) : dvFlush (oW b k k) = (10, oW b k k) := by unfold dvFlush; rw [oW_isOff]; rfl
theorem oW_raise (b : List UInt8) (k : Nat) : dvRaise (oW b k k) = (10, oW b k k) := by unfold dvRaise; rw [oW_isOff]; rfl
theorem pick_nil : ∀ (l : List (Nat × List UInt8)) (j : Nat), pick [] j l = []
  | [], _ => rfl
  | p :: l, j => by unfold pick; simp [pick_nil l]
theorem oW_crash (b : List UInt8) (k : Nat) : (dvCrash (oW b k k) []).2 = o2 := by
  unfold dvCrash
  rw [pick_nil]
  rfl
theorem ok_o2 : Ok o2 1 := ok_flush (ok_write (ok_new 2) _ _)
theorem ok_oW (b : List UInt8) (hb : b.length ≤ 512) (k j : Nat) (hj : j ≤ k) (hk : k ≤ 5) : Ok (oW b k j) 10 where
  kept := ok_o2.kept
  pend p hp := by
    have := (List.mem_replicate.1 hp).2
    rw [this]
    exact ⟨by show 1 < o2.kept.length; rw [o2_two]; omega, pad512_len b hb⟩
  few := by show (List.replicate j _).length ≤ 10; rw [List.length_replicate]; omega
  c0 := Int.le_refl _
  c1 := by show (0 : Int) ≤ maxCount; decide
  k0 := by show -1 ≤ ((k - j : Nat) : Int); omega
  k1 := by show ((k - j : Nat) : Int) < 9223372036854775808; omega
set_option maxHeartbeats 8000000 in
theorem off_walk (K : DevOk D) (calls : Int) (hcl : -9223372036854775808 ≤ calls) (hcu : calls < 9223372036854775808) (b : List UInt8) (hb : b.length = 4) (w : World) :
    Calls Try.prog 5 #[.int .i64 calls, .agg (bvs b).toArray] w fun e w' => e = .returned (.bool true) ∧ Below w.heap.size w w' := by
  have KK := Lib.hid K
  have HB := Lib.hid hb
  obtain ⟨k, hk, hk4⟩ : ∃ k : Nat, (k : Int) = (wrap64 (calls.tmod 5 + 5)).tmod 5 ∧ k ≤ 4 := by
    have a1 := Int.tmod_lt_of_pos calls (b := 5) (by omega)
    have a2 := Int.lt_tmod_of_pos calls (b := 5) (by omega)
    generalize calls.tmod 5 = x at a1 a2
    have e : wrap64 (x + 5) = x + 5 := by
      unfold wrap64
      omega
    rw [e, Int.tmod_eq_emod_of_nonneg (by omega)]
    exact ⟨((x + 5) % 5).toNat, by omega, by omega⟩
  go_enter Try.func5, Try.ntmps5
  go_wp2_with fail
  refine (awakeD KK.out _).mono ?_
  rintro e w1 ⟨rfl, hg1⟩
  have kc := fun (W : World) (C : Array Value) (n c : Nat) => Lib.run_convert_bytes_const (P := Try.prog) W 31 5 C n c Try.underlying31 Try.underlying5
  have GW := Lib.hid (Grown.trans (alloc_below w _) hg1)
  have RB := Lib.hid (show Rd w1 w1.heap.size (some ⟨w.heap.size, 0, none⟩) b from .inr ⟨_, 0, rfl, (by have := hg1.size; simp at this; omega), fun j hj => by
    rw [Nat.zero_add, hg1.cell (p := ⟨w.heap.size, j, none⟩) (by simp), cell_of_row _ _ j _ _ (0, 0) (heap_alloc_new w _)]; simp [bvs, hj]⟩)
  have HSz := Lib.hid (show w.heap.size + 1 ≤ w1.heap.size by have := hg1.size; simpa using this)
  clear hg1
  go_wp2_with fail
  refine (KK.out.new w1 2 (by omega) (by omega)).mono ?_
  rintro e w2 ⟨G, F, rfl, hd, hF, hg⟩
  have Z2 := Lib.hid (show DSince D w1 w2 G F (dvNew 2) from ⟨hd, hF, hg⟩)
  clear hd hF hg
  go_wp2_with fail
  refine (wr1 KK.out Z2.out (ok_new 2) (by omega) (by simp [dvNew]) 0 [97, 98] 2 (2, 3) rfl (by omega)).mono ?_
  rintro e w3 ⟨rfl, F3, hz3⟩
  have Z3 := Lib.hid (show DSince D w1 w3 G F3 o1 from hz3)
  have N3 := Lib.hid (show Ok o1 1 from ok_write (ok_new 2) _ _)
  clear hz3 Z2
  go_wp2_with fail
  refine (KK.out.flush w3 G F3 o1 1 Z3.out.1 N3.out (by omega) (by decide +kernel)).mono ?_
  rintro e w4 ⟨rfl, hd4⟩
  obtain ⟨F4, hz4⟩ := Z3.out.step hd4
  have Z4 := Lib.hid (show DSince D w1 w4 G F4 o2 from hz4)
  clear hz4 Z3 N3 hd4
  go_wp2_with fail
  rw [← hk]
  clear hk
  refine (KK.out.limit w4 G F4 o2 1 (k : Int) Z4.out.1 ok_o2 (by omega) (by omega)).mono ?_
  rintro e w5 ⟨rfl, hd5⟩
  rw [oW_limit b k] at hd5
  obtain ⟨F5, hz5⟩ := Z4.out.step hd5
  have Z5 := Lib.hid (show DSince D w1 w5 G F5 (oW b k 0) from hz5)
  clear hz5 Z4 hd5 kc
  go_wp2_with fail
  go_loopw [8, 9] (fun v8 v9 wr => ∃ (i j : Nat) (F : Nat → Prop), v8 = .int .i64 (j : Int) ∧ v9 = .int .i64 (i : Int) ∧ i ≤ 5 ∧ j = min i k ∧ Hid (DSince D w1 wr G F (oW b k j))) (fun _ v9 _ => 5 - (intOf v9).toNat)
  case atStart => exact ⟨0, 0, F5, rfl, rfl, by omega, by omega, Z5.out⟩
  case round =>
    clear Z5
    obtain ⟨i, j, F6, rfl, rfl, hi5, hj, HZ⟩ := hrel
    by_cases hlt : i < 5
    · have bi : (i : Int) < 5 := by omega
      have HJ := Lib.hid hj
      clear hj
      go_wp2_with fail
      refine (KK.out.write wr G F6 (oW b k j) 10 1 _ 4 4 b HZ.out.1 (ok_oW b (by rw [HB.out]; omega) k j (by have := HJ.out; omega) (by omega)) (by omega) (by show o2.kept.length ≤ 100; rw [o2_two]; omega) (RB.out.grow HZ.out.2.2) HB.out (by omega) (by omega) (fun x hx _ hf => ?_)).mono ?_
      · simp only [Option.some.injEq] at hx
        subst hx
        have h1 := HZ.out.2.1 _ hf
        have h2 := HSz.out
        simp only at h1
        omega
      rintro e w6 ⟨rfl, hd⟩
      by_cases hik : i < k
      · obtain rfl : j = i := by have := HJ.out; omega
        rw [oW_on b k j hik (by rw [HB.out]; omega)] at hd ⊢
        obtain ⟨F7, hz7⟩ := HZ.out.step hd
        have Z7 := Lib.hid hz7
        clear hz7 hd HJ HZ
        go_wp2
        exact ⟨⟨j + 1, j + 1, F7, by simp, by simp, by omega, by omega, Z7.out⟩, by simp [intOf]; omega⟩
      · obtain rfl : j = k := by have := HJ.out; omega
        rw [oW_off b j (by rw [HB.out]; omega)] at hd ⊢
        obtain ⟨F7, hz7⟩ := HZ.out.step hd
        have Z7 := Lib.hid hz7
        clear hz7 hd HJ HZ
        go_wp2
        exact ⟨⟨i + 1, j, F7, by simp, by simp, by omega, by omega, Z7.out⟩, by simp [intOf]; omega⟩
    · have bi : ¬ (i : Int) < 5 := by omega
      obtain rfl : j = k := by omega
      clear hj
      have NW := Lib.hid (ok_oW b (by rw [HB.out]; omega) j j (Nat.le_refl _) (by omega))
      have hl2 : (oW b j j).kept.length ≤ 100 := by show o2.kept.length ≤ 100; rw [o2_two]; omega
      go_wp2_with fail
      refine (KK.out.read wr G F6 (oW b j j) 10 0 HZ.out.1 NW.out (by omega) hl2).mono ?_
      rw [oW_read b j]
      rintro e w6 ⟨A, m, c, rfl, hm, hmc, ho, F7, hd, hF, hc, hx⟩
      obtain ⟨F8, hz8⟩ := HZ.out.step ⟨F7, hd, hF, hc⟩
      have Z8 := Lib.hid (show DSince D w1 w6 G F8 (oW b j j) from hz8)
      clear hm hmc ho hd hF hc hx hz8 HZ
      go_wp2_with fail
      refine (KK.out.waits w6 G F8 (oW b j j) 10 Z8.out.1 NW.out (by omega)).mono ?_
      rintro e w7 ⟨rfl, hg7⟩
      rw [show (oW b j j).pend.length = j from List.length_replicate]
      have Z9 := Lib.hid (Z8.out.grow KK.out hg7)
      clear hg7 Z8
      go_wp2_with fail
      refine (KK.out.flush w7 G F8 (oW b j j) 10 Z9.out.1 NW.out (by omega) hl2).mono ?_
      rw [oW_flush b j]
      rintro e w8 ⟨rfl, hd⟩
      obtain ⟨F9, hz9⟩ := Z9.out.step hd
      have Z10 := Lib.hid hz9
      clear hz9 hd Z9
      go_wp2_with fail
      refine (KK.out.raise w8 G F9 (oW b j j) 10 Z10.out.1 NW.out).mono ?_
      rw [oW_raise b j]
      rintro e w9 ⟨rfl, hd⟩
      obtain ⟨F10, hz10⟩ := Z10.out.step hd
      have Z11 := Lib.hid hz10
      clear hz10 hd Z10
      go_wp2_with fail
      refine (KK.out.count w9 G F10 (oW b j j) 10 Z11.out.1 NW.out).mono ?_
      rintro e w10 ⟨rfl, hg10⟩
      have Z12 := Lib.hid (Z11.out.grow KK.out hg10)
      rw [show (oW b j j).count = 0 from rfl]
      clear hg10 Z11
      go_wp2_with fail
      refine (KK.out.crash w10 G F10 (oW b j j) 10 none 0 0 [] Z12.out.1 NW.out (by omega) hl2 (.inl rfl) rfl (Nat.le_refl _) (by omega) (fun x hx => by cases hx)).mono ?_
      rintro e w11 ⟨rfl, hd⟩
      rw [oW_crash b j] at hd
      obtain ⟨F11, hz11⟩ := Z12.out.step hd
      have Z13 := Lib.hid hz11
      clear hz11 hd Z12
      go_wp2_with fail
      refine (begins_any KK.out Z13.out.1 ok_o2 (by omega) (by rw [o2_two]; omega) 0 [97, 98] 2 rfl (by omega)).mono ?_
      rintro e w12 ⟨rfl, hd⟩
      rw [show decide (beg o2 0 [97, 98]) = true from by decide +kernel]
      obtain ⟨F12, hz12⟩ := Z13.out.step hd
      have Z14 := Lib.hid (show DSince D w1 w12 G F12 o2 from hz12)
      clear hz12 hd Z13
      go_wp2_with fail
      refine (begins_any KK.out Z14.out.1 ok_o2 (by omega) (by rw [o2_two]; omega) 1 [0, 0, 0, 0] 4 rfl (by omega)).mono ?_
      rintro e w13 ⟨rfl, hd⟩
      rw [show decide (beg o2 1 [0, 0, 0, 0]) = true from by decide +kernel]
      obtain ⟨F13, hz13⟩ := Z14.out.step hd
      have Z15 := Lib.hid (show DSince D w1 w13 G F13 o2 from hz13)
      clear hz13 hd Z14
      go_wp2_with fail
      refine (KK.out.raise w13 G F13 o2 1 Z15.out.1 ok_o2).mono ?_
      rintro e w14 ⟨rfl, hd⟩
      rw [show (dvRaise o2).1 = 0 from by decide +kernel]
      obtain ⟨F14, hz14⟩ := Z15.out.step hd
      have Z16 := Lib.hid hz14
      clear hz14 hd Z15
      go_wp2_with fail
      refine (KK.out.count w14 G F14 (dvRaise o2).2 1 Z16.out.1 (ok_raise ok_o2)).mono ?_
      rintro e w15 ⟨rfl, hg15⟩
      rw [show (dvRaise o2).2.count = 1 from by decide +kernel]
      have G15 := Lib.hid (Grown.trans GW.out (Grown.trans Z16.out.2.2 hg15))
      clear hg15
      go_wp2
      go_ret
      exact ⟨rfl, G15.out⟩
end
end Go.Proofs.Yteigfpgdnfladaa.S13
