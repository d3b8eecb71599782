/-
  Contracts of the reference's times, inverse and S.
-/
import Derived.Test.YtgfmdjagggnfbaaBase
import Derived.Test.YtgfmdjagggnfbaaMath
import Derived.Test.YtgfmdjagggnfbaaAeM
namespace Go.Proofs.Ytgfmdjagggnfbaa.S7
open Go.RowKit
set_option linter.unusedVariables false
set_option linter.unusedSimpArgs false

def intOf : Value → Int
  | .int _ n => n
  | _ => 0

set_option maxHeartbeats 1000000 in
set_option maxRecDepth 20000 in
theorem times_any (a b : Nat) (ha : a < 256) (hb : b < 256) (w : World) : Calls Try.prog 32 #[.int .i64 (a : Int), .int .i64 (b : Int)] w fun e w' => e = .returned (.int .i64 (timesN a b : Nat)) ∧ w' = w := by
  go_enter Try.func32, Try.ntmps32
  go_wp2
  go_loop [5, 6] (fun v5 v6 => ∃ (j p d : Nat), v5 = .int .i64 (p : Int) ∧ v6 = .int .i64 (d : Int) ∧ p < 256 ∧ d ≤ 128 ∧ j ≤ 8 ∧ Hid (d = 128 / 2 ^ j) ∧ Hid (p = tmN a b j)) (fun _ v6 => (intOf v6).toNat)
  case atStart => exact ⟨0, 0, 128, rfl, rfl, by omega, by omega, by omega, rfl, rfl⟩
  case round =>
    obtain ⟨j, p, d, rfl, rfl, hp, hd, hj, Hd, Hp⟩ := hrel
    by_cases hd0 : 0 < d
    · have hj8 : j < 8 := by
        have := Hd.out
        rcases Nat.lt_or_ge j 8 with h | h
        · exact h
        · obtain rfl : j = 8 := by omega
          simp at this; omega
      obtain ⟨P2, hP2⟩ : ∃ P2, P2 = p * 2 := ⟨_, rfl⟩
      have hp2 : (p : Int) * 2 = (P2 : Int) := by omega
      have hP3 : P2 < 512 := by omega
      obtain ⟨R, hR⟩ : ∃ R, R = P2 ^^^ 283 := ⟨_, rfl⟩
      have hx1 : bits .xor .i64 (P2 : Int) 283 = (R : Int) := by rw [hR]; exact bits_xor_i64 P2 283 (by omega) (by omega)
      have hxb : ∀ q : Nat, q < 256 → bits .xor .i64 (q : Int) (b : Int) = ((q ^^^ b : Nat) : Int) := fun q hq => bits_xor_i64 q b (by omega) (by omega)
      obtain ⟨u, hu⟩ : ∃ u, u = a / d := ⟨_, rfl⟩
      have hu1 : (a : Int) / (d : Int) = (u : Int) := by rw [hu]; rfl
      have hd1 : d / 2 = 128 / 2 ^ (j + 1) := by rw [Hd.out, Nat.div_div_eq_div_mul, Nat.pow_succ]
      have hdne : ¬ d = 0 := by omega
      have hu256 : u < 256 := by rw [hu]; exact Nat.lt_of_le_of_lt (Nat.div_le_self _ _) ha
      have hst : tmN a b (j + 1) = tmStep a b d p := by rw [Hd.out, Hp.out]; rfl
      have hlt := tmStep_lt a b d p hb hp
      have hdd : d / 2 = 128 / 2 ^ (j + 1) := hd1
      have Hdd := Lib.hid hdd
      clear hd1 Hd
      by_cases h256 : 256 ≤ P2
      · by_cases hbit : u % 2 = 1
        · obtain ⟨V, hV⟩ : ∃ V, V = R ^^^ b := ⟨_, rfl⟩
          have HV := Lib.hid (show V = tmN a b (j + 1) by rw [hst, hV]; unfold tmStep; rw [← hu, ← hP2, if_pos hbit, if_pos h256, hR])
          have hVl : V < 256 := by rw [HV.out, hst]; exact hlt
          have hRl : R < 256 := by have := red_lt p hp; rw [← hP2, if_pos h256, ← hR] at this; exact this
          have hxR : bits .xor .i64 (R : Int) (b : Int) = (V : Int) := by rw [hV]; exact hxb R hRl
          clear hxb hu hP2 hR hst hlt hdd
          clear hV
          go_wp2
          go_round
          case rel => exact ⟨j + 1, V, d / 2, by go_num, by go_num, hVl, by omega, by omega, Hdd.out, HV.out⟩
          case measure => simp [intOf]; omega
        · obtain ⟨V, hV⟩ : ∃ V, V = R := ⟨_, rfl⟩
          have HV := Lib.hid (show V = tmN a b (j + 1) by rw [hst, hV]; unfold tmStep; rw [← hu, ← hP2, if_neg hbit, if_pos h256, hR])
          have hVl : V < 256 := by rw [HV.out, hst]; exact hlt
          have hRl : R < 256 := by have := red_lt p hp; rw [← hP2, if_pos h256, ← hR] at this; exact this
          subst hV
          clear hxb hu hP2 hR hst hlt hdd
          go_wp2
          go_round
          case rel => exact ⟨j + 1, V, d / 2, by go_num, by go_num, hVl, by omega, by omega, Hdd.out, HV.out⟩
          case measure => simp [intOf]; omega
      · by_cases hbit : u % 2 = 1
        · obtain ⟨V, hV⟩ : ∃ V, V = P2 ^^^ b := ⟨_, rfl⟩
          have HV := Lib.hid (show V = tmN a b (j + 1) by rw [hst, hV]; unfold tmStep; rw [← hu, ← hP2, if_pos hbit, if_neg h256])
          have hVl : V < 256 := by rw [HV.out, hst]; exact hlt
          have hxR : bits .xor .i64 (P2 : Int) (b : Int) = (V : Int) := by rw [hV]; exact hxb P2 (by omega)
          clear hxb hu hP2 hR hst hlt hdd
          clear hV
          go_wp2
          go_round
          case rel => exact ⟨j + 1, V, d / 2, by go_num, by go_num, hVl, by omega, by omega, Hdd.out, HV.out⟩
          case measure => simp [intOf]; omega
        · obtain ⟨V, hV⟩ : ∃ V, V = P2 := ⟨_, rfl⟩
          have HV := Lib.hid (show V = tmN a b (j + 1) by rw [hst, hV]; unfold tmStep; rw [← hu, ← hP2, if_neg hbit, if_neg h256])
          have hVl : V < 256 := by rw [HV.out, hst]; exact hlt
          subst hV
          clear hxb hu hP2 hR hst hlt hdd
          go_wp2
          go_round
          case rel => exact ⟨j + 1, V, d / 2, by go_num, by go_num, hVl, by omega, by omega, Hdd.out, HV.out⟩
          case measure => simp [intOf]; omega
    · have h8 : j = 8 := by
        have := Hd.out
        rcases Nat.lt_or_ge j 8 with h | h
        · have : 0 < 128 / 2 ^ j := Nat.div_pos (by have := Nat.pow_le_pow_right (n := 2) (by omega) (show j ≤ 7 by omega); omega) (Nat.two_pow_pos j)
          omega
        · omega
      have HT := Lib.hid (show p = timesN a b by rw [Hp.out, h8]; rfl)
      clear h8
      go_wp2
      go_ret
      exact ⟨by rw [← HT.out]; rfl, rfl⟩

set_option maxHeartbeats 1000000 in
set_option maxRecDepth 20000 in
theorem inverse_any (a : Nat) (ha : a < 256) (w : World) : Calls Try.prog 35 #[.int .i64 (a : Int)] w fun e w' => e = .returned (.int .i64 (inverseN a : Nat)) ∧ w' = w := by
  go_enter Try.func35, Try.ntmps35
  go_wp2
  go_loopw [3, 4] (fun v3 v4 wr => ∃ (j p d : Nat), v3 = .int .i64 (p : Int) ∧ v4 = .int .i64 (d : Int) ∧ p < 256 ∧ d ≤ 128 ∧ j ≤ 8 ∧ Hid (d = 128 / 2 ^ j) ∧ Hid (p = inN a j) ∧ Hid (wr = w)) (fun _ v4 _ => (intOf v4).toNat)
  case atStart => exact ⟨0, 1, 128, rfl, rfl, by omega, by omega, by omega, rfl, rfl, rfl⟩
  case round =>
    obtain ⟨j, p, d, rfl, rfl, hp, hd, hj, Hd, Hp, Hw⟩ := hrel
    by_cases hd0 : 0 < d
    · have hj8 : j < 8 := by
        have := Hd.out
        rcases Nat.lt_or_ge j 8 with h | h
        · exact h
        · obtain rfl : j = 8 := by omega
          simp at this; omega
      obtain ⟨u, hu⟩ : ∃ u, u = 254 / d := ⟨_, rfl⟩
      have hu1 : (254 : Int) / (d : Int) = (u : Int) := by rw [hu]; rfl
      have hd1 : d / 2 = 128 / 2 ^ (j + 1) := by rw [Hd.out, Nat.div_div_eq_div_mul, Nat.pow_succ]
      have hdne : ¬ d = 0 := by omega
      have hu256 : u < 256 := by rw [hu]; exact Nat.lt_of_le_of_lt (Nat.div_le_self _ _) (by omega)
      have Hst := Lib.hid (show inN a (j + 1) = inStep a d p by rw [Hd.out, Hp.out]; rfl)
      have Hdd := Lib.hid hd1
      have Hu := Lib.hid hu
      clear hd1 Hd Hp hu
      go_wp2_with fail
      refine (times_any p p hp hp _).mono ?_
      rintro e w2 ⟨rfl, rfl⟩
      obtain ⟨Q, hQ⟩ : ∃ Q, Q = timesN p p := ⟨_, rfl⟩
      rw [← hQ]
      have hQl : Q < 256 := by rw [hQ]; exact timesN_lt p p hp
      have HQ := Lib.hid hQ
      clear hQ
      by_cases hbit : u % 2 = 1
      · go_wp2_with fail
        refine (times_any Q a hQl ha _).mono ?_
        rintro e w3 ⟨rfl, rfl⟩
        obtain ⟨V, hV⟩ : ∃ V, V = timesN Q a := ⟨_, rfl⟩
        rw [← hV]
        have hVl : V < 256 := by rw [hV]; exact timesN_lt Q a ha
        have HV := Lib.hid (show V = inN a (j + 1) by rw [Hst.out]; unfold inStep; rw [← Hu.out, if_pos hbit, ← HQ.out, hV])
        clear hV
        go_wp2
        go_roundw
        case rel => exact ⟨j + 1, V, d / 2, by go_num, by go_num, hVl, by omega, by omega, Hdd.out, HV.out, Hw.out⟩
        case measure => simp [intOf]; omega
      · have HV := Lib.hid (show Q = inN a (j + 1) by rw [Hst.out]; unfold inStep; rw [← Hu.out, if_neg hbit, ← HQ.out])
        go_wp2
        go_roundw
        case rel => exact ⟨j + 1, Q, d / 2, by go_num, by go_num, hQl, by omega, by omega, Hdd.out, HV.out, Hw.out⟩
        case measure => simp [intOf]; omega
    · have h8 : j = 8 := by
        have := Hd.out
        rcases Nat.lt_or_ge j 8 with h | h
        · have : 0 < 128 / 2 ^ j := Nat.div_pos (by have := Nat.pow_le_pow_right (n := 2) (by omega) (show j ≤ 7 by omega); omega) (Nat.two_pow_pos j)
          omega
        · omega
      have HT := Lib.hid (show p = inverseN a by rw [Hp.out, h8]; rfl)
      clear h8
      go_wp2
      go_ret
      exact ⟨by rw [← HT.out]; rfl, Hw.out⟩

set_option maxHeartbeats 1000000 in
set_option maxRecDepth 20000 in
theorem s_any (a : Nat) (ha : a < 256) (w : World) : Calls Try.prog 31 #[.int .i64 (a : Int)] w fun e w' => e = .returned (.int .i64 (sN a : Nat)) ∧ w' = w := by
  go_enter Try.func31, Try.ntmps31
  go_wp2_with fail
  refine (inverse_any a ha _).mono ?_
  rintro e w2 ⟨rfl, rfl⟩
  obtain ⟨B, hB⟩ : ∃ B, B = inverseN a := ⟨_, rfl⟩
  rw [← hB]
  have hBl : B < 256 := by rw [hB]; exact inverseN_lt a ha
  have HB := Lib.hid hB
  clear hB
  go_wp2
  go_loop [3, 4, 5] (fun v3 v4 v5 => ∃ (k b s : Nat), v3 = .int .i64 (b : Int) ∧ v4 = .int .i64 (s : Int) ∧ v5 = .int .i64 (k : Int) ∧ k ≤ 5 ∧ b < 256 ∧ s < 256 ∧ Hid (b = rotN B k) ∧ Hid (s = accN B k)) (fun _ _ v5 => 5 - (intOf v5).toNat)
  case atStart => exact ⟨0, B, 99, rfl, rfl, rfl, by omega, hBl, by omega, rfl, rfl⟩
  case round =>
    obtain ⟨k, b, s, rfl, rfl, rfl, hk, hb, hs, Hb, Hs⟩ := hrel
    by_cases hlt : k < 5
    · obtain ⟨V, hV⟩ : ∃ V, V = s ^^^ b := ⟨_, rfl⟩
      have hx : bits .xor .i64 (s : Int) (b : Int) = (V : Int) := by rw [hV]; exact bits_xor_i64 s b (by omega) (by omega)
      have HV := Lib.hid (show V = accN B (k + 1) by rw [hV, Hb.out, Hs.out]; rfl)
      have hVl : V < 256 := by rw [hV]; exact Nat.xor_lt_two_pow (n := 8) hs hb
      obtain ⟨b2, hb2⟩ : ∃ b2, b2 = b * 2 % 256 + b / 128 := ⟨_, rfl⟩
      have Hb2 := Lib.hid (show b2 = rotN B (k + 1) by rw [hb2, Hb.out]; rfl)
      have hbl : b2 < 256 := by omega
      have HB2 := Lib.hid hb2
      clear hV hb2
      go_wp2
      go_round
      case rel => exact ⟨k + 1, b2, V, (by rw [HB2.out]; go_num), by go_num, by go_num, by omega, hbl, hVl, Hb2.out, HV.out⟩
      case measure => simp [intOf]; omega
    · obtain rfl : k = 5 := by omega
      have HT := Lib.hid (show s = sN a by rw [Hs.out, HB.out]; rfl)
      go_wp2
      go_ret
      exact ⟨by rw [← HT.out]; rfl, rfl⟩
end Go.Proofs.Ytgfmdjagggnfbaa.S7
