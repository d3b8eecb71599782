/-
  The program's next: the text that follows.
-/
import Derived.Test.YtanalbdbkfmifaaTqD
import Derived.Test.YtanalbdbkfmifaaTpP
namespace Go.Proofs.Ytanalbdbkfmifaa.S11
open Go.RowKit
set_option linter.unusedVariables false
set_option linter.unusedSimpArgs false

theorem mid_stop (l : List UInt8) (m : Nat) (h : cr l (l.length - m) = 0) (hm : m ≤ l.length) : mid l m = nxt l := by
  have hz : ∀ j, cr l (l.length - m + j) = 0 := by
    intro j
    induction j with
    | zero => exact h
    | succ j ih =>
      show ((gz l (l.length - 1 - (l.length - m + j))).toNat + cr l (l.length - m + j)) / 256 = 0
      rw [ih]
      have := (gz l (l.length - 1 - (l.length - m + j))).toNat_lt
      omega
  unfold mid nxt
  apply List.map_congr_left
  intro p hp
  have hp' : p < l.length := by simpa using hp
  by_cases c : m ≤ p
  · rw [if_pos c]
  · rw [if_neg c]
    unfold dg
    have := hz (m - 1 - p)
    rw [show l.length - m + (m - 1 - p) = l.length - 1 - p by omega] at this
    rw [this]
    have h2 := (gz l p).toNat_lt
    apply UInt8.toNat_inj.1
    rw [UInt8.toNat_ofNat']
    omega
theorem chF_grown {w w' : World} (h : Ch (fun _ => False) w w') : Grown w w' := ⟨h.os, h.tape, h.output, h.size, fun k hk => h.block k hk id⟩
set_option maxHeartbeats 4000000 in
theorem next_any (l : List UInt8) (w : World) (h : l.length ≤ 1000) : Calls Try.prog 24 #[.string ⟨l.toArray⟩] w fun e w' => e = .returned (.string ⟨(nxt l).toArray⟩) ∧ Grown w w' := by
  obtain ⟨cb, w6, hcvb, hcb, hbq, hg6⟩ := conv_bq w l
  obtain ⟨gb, hgb⟩ : ∃ gb, gb = w.heap.size := ⟨_, rfl⟩
  rw [← hgb] at hcvb hbq
  have HGB := Lib.hid hgb
  obtain ⟨L, hL⟩ : ∃ L, L = l.length := ⟨_, rfl⟩
  rw [← hL] at hcvb hcb h
  have HL := Lib.hid hL
  have BQ := Lib.hid hbq
  have C6 := Lib.hid (Ch.grown (F := fun _ => False) hg6)
  clear hbq hg6 hgb hL
  go_enter Try.func24, Try.ntmps24
  go_wp2
  clear hcvb
  go_loopw [4] (fun v4 wr => ∃ (k : Nat) (z : Int), v4 = .int .i64 z ∧ Hid (z = (k : Int) - 1) ∧ k ≤ L ∧ Hid (cr l (L - k) = 1) ∧ Hid (Bq wr gb (mid l k)) ∧ Hid (Ch (fun _ => False) w wr)) (fun v4 _ => (intOf v4 + 1).toNat)
  case atStart => exact ⟨L, (L : Int) - 1, rfl, rfl, Nat.le_refl _, (by show cr l (L - L) = 1; rw [Nat.sub_self]; rfl), (by show Bq _ _ _; rw [HL.out, mid_all]; exact BQ.out), C6.out⟩
  case round =>
    clear BQ C6
    obtain ⟨k, z, rfl, Hz, hk, Hc, HBQ, HC⟩ := hrel
    by_cases hk0 : k = 0
    · subst hk0
      obtain rfl : z = -1 := by have := Hz.out; omega
      have hcv := conv HBQ.out.rd cb
      rw [mid_len, ← HL.out, mid_zero] at hcv
      have GR := Lib.hid (chF_grown HC.out)
      obtain ⟨Y, hY⟩ : ∃ Y, Y = nxt l := ⟨_, rfl⟩
      rw [← hY] at hcv
      have HY := Lib.hid hY
      clear hY HBQ HC
      go_wp2
      go_ret
      exact ⟨by rw [← HY.out]; rfl, GR.out⟩
    · obtain ⟨m, rfl⟩ : ∃ m, k = m + 1 := ⟨k - 1, by omega⟩
      obtain rfl : z = (m : Int) := by have := Hz.out; omega
      have hmL : m < l.length := by rw [← HL.out]; omega
      obtain ⟨x, hx⟩ : ∃ x, x = gz l m := ⟨_, rfl⟩
      have hcx : wr.cell? ⟨gb, m, none⟩ = some (.int .u8 (x.toNat : Int)) := by
        rw [HBQ.out.2.1 m (by rw [mid_len]; exact hmL), gz_mid _ _ _ hmL, if_neg (by omega), hx]
      have hfx := HBQ.out.2.2 m (by rw [mid_len]; exact hmL)
      have bm : (0 : Int) ≤ (m : Int) := by omega
      have bmL : (m : Int) < (L : Int) := by omega
      have bxx := x.toNat_lt
      obtain ⟨y, hy⟩ : ∃ y, y = dg l m := ⟨_, rfl⟩
      have HD := Lib.hid (show (x.toNat + 1) % 256 = y.toNat by
        rw [hy]
        unfold dg
        rw [UInt8.toNat_ofNat', ← hx]
        have := Hc.out
        rw [HL.out] at this
        rw [show l.length - 1 - m = l.length - (m + 1) by omega, this]
        omega)
      have HCr := Lib.hid (show (x.toNat + 1) / 256 = cr l (L - m) by
        rw [show L - m = (L - (m + 1)) + 1 by omega]
        show _ = ((gz l (l.length - 1 - (L - (m + 1)))).toNat + cr l (L - (m + 1))) / 256
        rw [Hc.out, ← HL.out, show L - 1 - (L - (m + 1)) = m by omega, ← hx])
      have HB2 := Lib.hid (show Bq (wr.setCell ⟨gb, m, none⟩ (.int .u8 (y.toNat : Int))) gb (mid l m) by
        refine HBQ.out.put m y (mid l m) (by rw [mid_len, mid_len]) (by rw [gz_mid _ _ _ hmL, if_pos (Nat.le_refl _), hy]) (fun j hj hne => ?_) (by rw [mid_len]; exact hmL)
        rw [mid_len] at hj
        rw [gz_mid _ _ _ hj, gz_mid _ _ _ hj]
        by_cases c1 : m ≤ j
        · rw [if_pos c1, if_pos (by omega)]
        · rw [if_neg c1, if_neg (by omega)])
      have HC2 := Lib.hid (Ch.setCell HC.out (p := ⟨gb, m, none⟩) (.inr (Nat.le_of_eq HGB.out.symm)) (.int .u8 (y.toNat : Int)))
      have hyc : (wr.setCell ⟨gb, m, none⟩ (.int .u8 (y.toNat : Int))).cell? ⟨gb, m, none⟩ = some (.int .u8 (y.toNat : Int)) := by
        have := HB2.out.2.1 m (by rw [mid_len]; exact hmL)
        rw [this, gz_mid _ _ _ hmL, if_pos (Nat.le_refl _), hy]
      have hwr : IntKind.u8.wrap ((x.toNat : Int) + 1) = (y.toNat : Int) := by
        rw [← HD.out]
        simp [IntKind.wrap, IntKind.bits, IntKind.signed]
        done
      have HYd := Lib.hid hy
      clear hx hk0 HBQ HC hy
      cases hb : ((y.toNat : Int) != 0) with
      | true =>
        have hy0 : ¬ (y.toNat : Int) = 0 := by simpa using hb
        have hcv := conv HB2.out.rd cb
        rw [mid_len, ← HL.out, mid_stop l m (by rw [← HL.out, ← HCr.out]; have := HD.out; omega) (by omega)] at hcv
        have GR := Lib.hid (chF_grown HC2.out)
        obtain ⟨Y, hY⟩ : ∃ Y, Y = nxt l := ⟨_, rfl⟩
        rw [← hY] at hcv
        have HY := Lib.hid hY
        clear hY hyc
        have hyc : (wr.setCell ⟨gb, m, none⟩ (.int .u8 (y.toNat : Int))).cell? ⟨gb, m, none⟩ = some (.int .u8 (y.toNat : Int)) := by
          have := HB2.out.2.1 m (by rw [mid_len]; exact hmL)
          rw [this, gz_mid _ _ _ hmL, if_pos (Nat.le_refl _), HYd.out]
        go_wp2
        go_ret
        exact ⟨by rw [← HY.out]; rfl, GR.out⟩
      | false =>
        have hy0 : (y.toNat : Int) = 0 := by simpa using hb
        have HC1 := Lib.hid (show cr l (L - m) = 1 by rw [← HCr.out]; have := HD.out; omega)
        clear hy0
        go_wp2
        exact ⟨⟨m, _, rfl, rfl, by omega, HC1.out, HB2.out, HC2.out⟩, by simp [intOf]⟩
end Go.Proofs.Ytanalbdbkfmifaa.S11
