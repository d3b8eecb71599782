/-
  The reference of pad: Fill.
-/
import Derived.Test.YtpfhpopfakfjhaaDoorPaR
namespace Go.Proofs.YtpfhpopfakfjhaaDoor.S10
open Go.RowKit
set_option linter.unusedVariables false
set_option linter.unusedSimpArgs false

def fillB (s : List UInt8) (u : Int) : Bool := nameB s && decide (u = 16 ∨ u = 32)
def fillI (s : List UInt8) (u : Int) : List UInt8 := if fillB s u then fillL s u.toNat else []
def _root_.Go.Value.strSize : Value → Nat
  | .string s => s.size
  | _ => 0

theorem bapp (t : List UInt8) : (ByteArray.mk t.toArray ++ ByteArray.mk #[0]) = ByteArray.mk (t ++ [0]).toArray := by
  apply ByteArray.ext
  simp

set_option maxHeartbeats 2000000 in
theorem refFill_any (s : List UInt8) (n : Nat) (u : Int) (w : World) (hn : s.length = n) (hl : n ≤ 1000000) (hu1 : -9223372036854775808 ≤ u) (hu2 : u < 9223372036854775808) :
    Calls Tryd.prog 9 #[.string { data := s.toArray }, .int .i64 u] w fun e w' => e = .returned (.tuple #[.string { data := (fillI s u).toArray }, .bool (fillB s u)]) ∧ w = w' := by
  have Hn := Lib.hid hn
  obtain ⟨q, hq⟩ : ∃ q, nameB s = q := ⟨_, rfl⟩
  have CN := Lib.hid (show Calls Tryd.prog 11 #[.string { data := s.toArray }] w fun e w' => e = .returned (.bool q) ∧ w = w' by rw [← hq]; exact refName_any s n w hn (by unfold maxLen; omega))
  have HN := Lib.hid hq
  clear hq
  go_enter Tryd.func9, Tryd.ntmps9
  go_wp2_with fail
  refine CN.out.mono ?_
  rintro e w2 ⟨rfl, rfl⟩
  cases q with
  | false =>
    have hb := Lib.hid (show fillB s u = false ∧ fillI s u = [] by
      have h : fillB s u = false := by unfold fillB; rw [HN.out]; rfl
      exact ⟨h, by unfold fillI; rw [h]; rfl⟩)
    go_wp2
    go_ret2
    rw [hb.out.1, hb.out.2]; exact ⟨rfl, rfl⟩
  | true =>
  by_cases h3 : ¬ (u = 16 ∨ u = 32)
  · have hb := Lib.hid (show fillB s u = false ∧ fillI s u = [] by
      have h : fillB s u = false := by unfold fillB; rw [HN.out, decide_eq_false h3]; rfl
      exact ⟨h, by unfold fillI; rw [h]; rfl⟩)
    have h4 : (u != 16) = true := by simp; exact fun h => h3 (.inl h)
    have h5 : (u != 32) = true := by simp; exact fun h => h3 (.inr h)
    clear h3
    go_wp2
    go_ret2
    rw [hb.out.1, hb.out.2]; exact ⟨rfl, rfl⟩
  have h3' : u = 16 ∨ u = 32 := Decidable.not_not.1 h3
  have hnl := name_len HN.out
  rw [hn] at hnl
  obtain ⟨hn1, hn2⟩ := hnl
  clear h3 CN
  rcases h3' with rfl | rfl
  · have HZ := Lib.hid (show fillB s 16 = true ∧ fillI s 16 = fillL s 16 by
      have h : fillB s 16 = true := by unfold fillB; rw [HN.out]; decide
      exact ⟨h, by unfold fillI; rw [if_pos h]; rfl⟩)
    obtain ⟨q, hq⟩ : ∃ q, q = upN n 16 := ⟨_, rfl⟩
    have hzz := refSize_any n 16 w (by omega) (by omega) (by omega) (by omega)
    rw [show sizeI n 16 = (q : Nat) by unfold sizeI; rw [if_pos ⟨by omega, by omega⟩, hq]; rfl] at hzz
    have hq2 := up_16 n (by omega)
    rw [← hq] at hq2
    have hq3 : q ≤ 128 := by omega
    have hq4 : n ≤ q := hq2.1
    have HQ := Lib.hid hq
    have CS := Lib.hid hzz
    clear hq hq2 hzz
    go_wp2_with fail
    refine CS.out.mono ?_
    rintro e w3 ⟨rfl, rfl⟩
    go_wp2
    go_loopw [0] (fun v wr => w = wr ∧ ∃ k m : Nat, m ≤ q ∧ v = .string ⟨(s ++ List.replicate k 0).toArray⟩ ∧ Hid ((s ++ List.replicate k (0 : UInt8)).length = m ∧ m = n + k)) (fun v _ => q - v.strSize)
    case atStart => exact ⟨rfl, 0, n, hq4, (by simp), by show _ ∧ _; simp [Hn.out]⟩
    case round =>
      obtain ⟨rfl, k, m, hk, rfl, Hk⟩ := hrel
      obtain ⟨t, ht⟩ : ∃ t, s ++ List.replicate k (0 : UInt8) = t := ⟨_, rfl⟩
      have Ht := Lib.hid ht
      have hm : t.length = m := by rw [← ht]; exact Hk.out.1
      have Hm := Lib.hid hm
      rw [ht]
      by_cases hlt : m < q
      · have HE := Lib.hid (bapp t)
        have hz0 : (s ++ List.replicate (k + 1) (0 : UInt8)) = t ++ [0] := by rw [List.replicate_succ', ← List.append_assoc, Ht.out]
        have HZ0 := Lib.hid hz0
        clear hz0
        go_wp2
        go_roundw
        case rel => exact ⟨trivial, k + 1, m + 1, by omega, by rw [HE.out, HZ0.out], by show _ ∧ _; rw [HZ0.out]; have := Hk.out.2; simp; omega⟩
        case measure => rw [HE.out]; simp only [Value.strSize, ByteArray.size]; simp; omega
      · have hmq : m = q := by omega
        have HT := Lib.hid (show t = fillL s 16 by
          rw [← Ht.out]
          unfold fillL
          rw [Hn.out, ← HQ.out]
          congr 2
          have := Hk.out.2
          omega)
        go_wp2
        go_ret2
        rw [HZ.out.1, HZ.out.2, ← HT.out]; exact ⟨rfl, rfl⟩
  · have HZ := Lib.hid (show fillB s 32 = true ∧ fillI s 32 = fillL s 32 by
      have h : fillB s 32 = true := by unfold fillB; rw [HN.out]; decide
      exact ⟨h, by unfold fillI; rw [if_pos h]; rfl⟩)
    obtain ⟨q, hq⟩ : ∃ q, q = upN n 32 := ⟨_, rfl⟩
    have hzz := refSize_any n 32 w (by omega) (by omega) (by omega) (by omega)
    rw [show sizeI n 32 = (q : Nat) by unfold sizeI; rw [if_pos ⟨by omega, by omega⟩, hq]; rfl] at hzz
    have hq2 := up_32 n (by omega)
    rw [← hq] at hq2
    have hq3 : q ≤ 128 := by omega
    have hq4 : n ≤ q := hq2.1
    have HQ := Lib.hid hq
    have CS := Lib.hid hzz
    clear hq hq2 hzz
    go_wp2_with fail
    refine CS.out.mono ?_
    rintro e w3 ⟨rfl, rfl⟩
    go_wp2
    go_loopw [0] (fun v wr => w = wr ∧ ∃ k m : Nat, m ≤ q ∧ v = .string ⟨(s ++ List.replicate k 0).toArray⟩ ∧ Hid ((s ++ List.replicate k (0 : UInt8)).length = m ∧ m = n + k)) (fun v _ => q - v.strSize)
    case atStart => exact ⟨rfl, 0, n, hq4, (by simp), by show _ ∧ _; simp [Hn.out]⟩
    case round =>
      obtain ⟨rfl, k, m, hk, rfl, Hk⟩ := hrel
      obtain ⟨t, ht⟩ : ∃ t, s ++ List.replicate k (0 : UInt8) = t := ⟨_, rfl⟩
      have Ht := Lib.hid ht
      have hm : t.length = m := by rw [← ht]; exact Hk.out.1
      have Hm := Lib.hid hm
      rw [ht]
      by_cases hlt : m < q
      · have HE := Lib.hid (bapp t)
        have hz0 : (s ++ List.replicate (k + 1) (0 : UInt8)) = t ++ [0] := by rw [List.replicate_succ', ← List.append_assoc, Ht.out]
        have HZ0 := Lib.hid hz0
        clear hz0
        go_wp2
        go_roundw
        case rel => exact ⟨trivial, k + 1, m + 1, by omega, by rw [HE.out, HZ0.out], by show _ ∧ _; rw [HZ0.out]; have := Hk.out.2; simp; omega⟩
        case measure => rw [HE.out]; simp only [Value.strSize, ByteArray.size]; simp; omega
      · have hmq : m = q := by omega
        have HT := Lib.hid (show t = fillL s 32 by
          rw [← Ht.out]
          unfold fillL
          rw [Hn.out, ← HQ.out]
          congr 2
          have := Hk.out.2
          omega)
        go_wp2
        go_ret2
        rw [HZ.out.1, HZ.out.2, ← HT.out]; exact ⟨rfl, rfl⟩
end Go.Proofs.YtpfhpopfakfjhaaDoor.S10
