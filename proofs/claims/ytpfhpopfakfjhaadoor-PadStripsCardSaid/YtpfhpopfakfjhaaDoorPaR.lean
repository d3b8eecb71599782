/-
  The reference of pad.
-/
import Derived.Test.YtpfhpopfakfjhaaDoorPaL
import Derived.Test.YtpfhpopfakfjhaaDoorBase
namespace Go.Proofs.YtpfhpopfakfjhaaDoor.S10
open Go.RowKit
set_option linter.unusedVariables false
set_option linter.unusedSimpArgs false

theorem slen (p : List UInt8) : (ByteArray.mk p.toArray).toList = p := by simp
theorem slbeq (p q : List UInt8) : ((ByteArray.mk p.toArray).toList == (ByteArray.mk q.toArray).toList) = decide (p = q) := by
  rw [slen, slen, Bool.eq_iff_iff]
  simp
theorem ixs (s : List UInt8) (i : Nat) (hi : i < s.length) (W : World) : (Instr.index 9 (.string { data := s.toArray }) (.int .i64 (i : Int))).run Tryd.prog W = .ok (.int .u8 ((s.getD i 0).toNat : Int)) W := by
  rw [run_index_string W 9 _ .i64 (i : Int) Tryd.underlying9]
  have h1 : 0 ≤ (i : Int) ∧ (i : Int) < ((⟨s.toArray⟩ : ByteArray).size : Int) := ⟨by omega, by show (i : Int) < ((s.toArray).size : Int); simp; omega⟩
  rw [dif_pos h1]
  have e : s.getD i 0 = s[i] := by simp [hi]
  rw [e]
  rfl

theorem all_take (s : List UInt8) (p : UInt8 → Bool) (k : Nat) (hk : k < s.length) (h : (s.take k).all p = true) (hp : p (s.getD k 0) = true) : (s.take (k + 1)).all p = true := by
  have e : s.getD k 0 = s[k] := by simp [hk]
  rw [List.take_succ_eq_append_getElem hk, List.all_append, h, List.all_cons, ← e, hp]
  rfl
theorem not_all (s : List UInt8) (p : UInt8 → Bool) (k : Nat) (hk : k < s.length) (hp : p (s.getD k 0) = false) : s.all p = false := by
  rw [List.all_eq_false]
  have e : s.getD k 0 = s[k] := by simp [hk]
  exact ⟨s[k], List.getElem_mem hk, by rw [← e, hp]; simp⟩
theorem bad_name (s : List UInt8) (h : s.all fitB = false) : nameB s = false := by simp [nameB, h]
theorem fit_of {c : UInt8} (h0 : c.toNat ≠ 0) (h1 : c.toNat ≠ 47) : fitB c = true := by
  simp only [fitB, decide_eq_true_eq]
  constructor
  · rintro rfl; exact h0 rfl
  · rintro rfl; exact h1 rfl
theorem unfit {c : UInt8} (h : c.toNat = 0 ∨ c.toNat = 47) : fitB c = false := by
  simp only [fitB, decide_eq_false_iff_not]
  rintro ⟨h0, h1⟩
  rcases h with h | h
  · exact h0 (UInt8.toNat.inj h)
  · exact h1 (UInt8.toNat.inj h)

set_option maxHeartbeats 2000000 in
theorem refName_any (s : List UInt8) (n : Nat) (w : World) (hn : s.length = n) (hl : n ≤ maxLen) :
    Calls Tryd.prog 11 #[.string { data := s.toArray }] w fun e w' => e = .returned (.bool (nameB s)) ∧ w = w' := by
  have Hn := Lib.hid hn
  have hl : n ≤ 9223372036854775807 := hl
  go_enter Tryd.func11, Tryd.ntmps11
  go_wp2
  go_loopw [3] (fun i wr => w = wr ∧ ∃ k : Nat, k ≤ n ∧ i = .int .i64 k ∧ Hid ((s.take k).all fitB = true)) (fun i _ => n - (intOf i).toNat)
  case atStart => exact ⟨rfl, 0, by omega, rfl, (by show (s.take 0).all fitB = true; rfl)⟩
  case round =>
    obtain ⟨rfl, k, hk, rfl, Hg⟩ := hrel
    by_cases hlt : k < n
    · obtain ⟨x, hx⟩ : ∃ x, s.getD k 0 = x := ⟨_, rfl⟩
      have hix : ∀ W : World, (Instr.index 9 (.string { data := s.toArray }) (.int .i64 (k : Int))).run Tryd.prog W = .ok (.int .u8 (x.toNat : Int)) W := fun W => by
        have := ixs s k (by rw [Hn.out]; omega) W
        rwa [hx] at this
      have hkl := Lib.hid (show k < s.length by rw [Hn.out]; exact hlt)
      have Hx := Lib.hid hx
      clear hx
      by_cases h0 : x.toNat = 0
      · have hb := Lib.hid (bad_name s (not_all s fitB k hkl.out (by rw [Hx.out]; exact unfit (.inl h0))))
        have h0i : (x.toNat : Int) = 0 := by omega
        go_wp2
        go_ret
        rw [hb.out]; exact ⟨rfl, rfl⟩
      by_cases h1 : x.toNat = 47
      · have hb := Lib.hid (bad_name s (not_all s fitB k hkl.out (by rw [Hx.out]; exact unfit (.inr h1))))
        have h1i : (x.toNat : Int) = 47 := by omega
        go_wp2
        go_ret
        rw [hb.out]; exact ⟨rfl, rfl⟩
      have hb0 : ((x.toNat : Int) == 0) = false := by simpa using h0
      have hb1 : ((x.toNat : Int) == 47) = false := by rw [beq_eq_false_iff_ne]; omega
      have Hf := Lib.hid (all_take s fitB k hkl.out Hg.out (by rw [Hx.out]; exact fit_of h0 h1))
      go_wp2
      go_roundw
      case rel => exact ⟨trivial, k + 1, by omega, by go_num, Hf.out⟩
      case measure => simp [intOf]; omega
    · have ha := Lib.hid (show s.all fitB = true by have := Hg.out; rwa [List.take_of_length_le (by rw [Hn.out]; omega)] at this)
      clear Hg
      obtain rfl : n = k := by omega
      clear hk
      by_cases g0 : n = 0
      · have hb := Lib.hid (show nameB s = false by unfold nameB; simp [Hn.out, g0])
        have bg : ¬ (1 : Int) ≤ n := by omega
        go_wp2
        go_ret
        rw [hb.out]; exact ⟨rfl, rfl⟩
      have bg : (1 : Int) ≤ n := by omega
      by_cases g1 : 96 < n
      · have hb := Lib.hid (show nameB s = false by unfold nameB; rw [show decide (1 ≤ s.length ∧ s.length ≤ 96) = false by rw [decide_eq_false_iff_not, Hn.out]; omega]; simp)
        have bg1 : ¬ (n : Int) ≤ 96 := by omega
        go_wp2
        go_ret
        rw [hb.out]; exact ⟨rfl, rfl⟩
      have bg1 : (n : Int) ≤ 96 := by omega
      by_cases e1 : s = [46]
      · have hb := Lib.hid (show nameB s = false by rw [e1]; decide)
        go_wp2
        go_ret
        rw [hb.out]; exact ⟨rfl, rfl⟩
      by_cases e2 : s = [46, 46]
      · have hb := Lib.hid (show nameB s = false by rw [e2]; decide)
        obtain rfl : n = 2 := by rw [← Hn.out, e2]; rfl
        go_wp2
        go_ret
        rw [hb.out]; exact ⟨rfl, rfl⟩
      have hb := Lib.hid (show nameB s = true by
        unfold nameB
        rw [ha.out, show decide (1 ≤ s.length ∧ s.length ≤ 96) = true by rw [decide_eq_true_iff, Hn.out]; omega]
        simp [e1, e2])
      have e3 : (s == [46]) = false := by simpa using e1
      have e4 : (s == [46, 46]) = false := by simpa using e2
      go_wp2
      go_ret
      rw [hb.out]; exact ⟨rfl, rfl⟩

/-- What the reference's Size says, of any two numbers. -/
def sizeI (n u : Int) : Int := if (1 ≤ n ∧ n ≤ 96) ∧ (u = 16 ∨ u = 32) then ((upN n.toNat u.toNat : Nat) : Int) else 0
theorem up_step (n u k : Nat) (hu : u = 16 ∨ u = 32) (hn : 1 ≤ n) (h : n ≤ k * u) (h2 : (k - 1) * u < n) : upN n u = k * u := by
  rcases hu with rfl | rfl <;> unfold upN <;> omega

set_option maxHeartbeats 2000000 in
theorem refSize_any (n u : Int) (w : World) (hn1 : -9223372036854775808 ≤ n) (hn2 : n < 9223372036854775808) (hu1 : -9223372036854775808 ≤ u) (hu2 : u < 9223372036854775808) :
    Calls Tryd.prog 13 #[.int .i64 n, .int .i64 u] w fun e w' => e = .returned (.int .i64 (sizeI n u)) ∧ w = w' := by
  go_enter Tryd.func13, Tryd.ntmps13
  by_cases h1 : n < 1
  · have hb := Lib.hid (show sizeI n u = 0 by unfold sizeI; rw [if_neg (by omega)])
    go_wp2
    go_ret
    rw [hb.out]; exact ⟨rfl, rfl⟩
  by_cases h2 : 96 < n
  · have hb := Lib.hid (show sizeI n u = 0 by unfold sizeI; rw [if_neg (by omega)])
    go_wp2
    go_ret
    rw [hb.out]; exact ⟨rfl, rfl⟩
  by_cases h3 : ¬ (u = 16 ∨ u = 32)
  · have hb := Lib.hid (show sizeI n u = 0 by unfold sizeI; rw [if_neg (fun h => h3 h.2)])
    have h4 : (u != 16) = true := by simp; exact fun h => h3 (.inl h)
    have h5 : (u != 32) = true := by simp; exact fun h => h3 (.inr h)
    clear h3
    go_wp2
    go_ret
    rw [hb.out]; exact ⟨rfl, rfl⟩
  obtain ⟨N, rfl⟩ : ∃ N : Nat, n = N := ⟨n.toNat, by omega⟩
  have h3' : u = 16 ∨ u = 32 := Decidable.not_not.1 h3
  have hb := Lib.hid (show sizeI N u = (upN N u.toNat : Nat) by unfold sizeI; rw [if_pos ⟨by omega, h3'⟩, Int.toNat_natCast])
  clear h3
  rcases h3' with rfl | rfl
  · have nn : N ≤ 96 := by omega
    go_wp2
    go_loopw [5] (fun i wr => w = wr ∧ ∃ j k : Nat, k ≤ 128 ∧ i = .int .i64 k ∧ Hid (k = j * 16 ∧ 1 ≤ j ∧ (j - 1) * 16 < N)) (fun i _ => 128 - (intOf i).toNat)
    case atStart => exact ⟨rfl, 1, 16, by omega, rfl, rfl, Nat.le_refl _, by omega⟩
    case round =>
      obtain ⟨rfl, j, k, hk, rfl, Hk⟩ := hrel
      by_cases hlt : k < N
      · go_wp2
        go_roundw
        case rel => exact ⟨trivial, j + 1, k + 16, by omega, by go_num, by have := Hk.out; omega, by omega, by have := Hk.out; omega⟩
        case measure => simp [intOf]; omega
      · have hz := Lib.hid (show upN N 16 = k by have := Hk.out; rw [this.1]; exact up_step N 16 j (by omega) (by omega) (by omega) this.2.2)
        have hlt2 : ¬ (k : Int) < N := by omega
        clear hlt
        go_wp2
        go_ret
        rw [show sizeI N 16 = (upN N 16 : Nat) from hb.out, hz.out]; exact ⟨rfl, rfl⟩
  · have nn : N ≤ 96 := by omega
    go_wp2
    go_loopw [5] (fun i wr => w = wr ∧ ∃ j k : Nat, k ≤ 128 ∧ i = .int .i64 k ∧ Hid (k = j * 32 ∧ 1 ≤ j ∧ (j - 1) * 32 < N)) (fun i _ => 128 - (intOf i).toNat)
    case atStart => exact ⟨rfl, 1, 32, by omega, rfl, rfl, Nat.le_refl _, by omega⟩
    case round =>
      obtain ⟨rfl, j, k, hk, rfl, Hk⟩ := hrel
      by_cases hlt : k < N
      · go_wp2
        go_roundw
        case rel => exact ⟨trivial, j + 1, k + 32, by omega, by go_num, by have := Hk.out; omega, by omega, by have := Hk.out; omega⟩
        case measure => simp [intOf]; omega
      · have hz := Lib.hid (show upN N 32 = k by have := Hk.out; rw [this.1]; exact up_step N 32 j (by omega) (by omega) (by omega) this.2.2)
        have hlt2 : ¬ (k : Int) < N := by omega
        clear hlt
        go_wp2
        go_ret
        rw [show sizeI N 32 = (upN N 32 : Nat) from hb.out, hz.out]; exact ⟨rfl, rfl⟩
end Go.Proofs.YtpfhpopfakfjhaaDoor.S10
