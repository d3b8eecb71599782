/-
  The reference of pad: Strip.
-/
import Derived.Test.YtpfhpopfakfjhaaDoorPaF
namespace Go.Proofs.YtpfhpopfakfjhaaDoor.S10
open Go.RowKit
set_option linter.unusedVariables false
set_option linter.unusedSimpArgs false

theorem cutS (l : List UInt8) (n : Nat) (h : n ≤ l.length) (W : World) : (Instr.slice 9 (.string { data := l.toArray }) none (some (.int .i64 (n : Int))) none).run Tryd.prog W = .ok (.string { data := (l.take n).toArray }) W := by
  have hs : (ByteArray.mk l.toArray).size = l.length := by simp [ByteArray.size]
  have hr := run_slice_string_h (P := Tryd.prog) W 9 ⟨l.toArray⟩ Tryd.underlying9 .i64 (n : Int) (by omega) (by rw [hs]; omega)
  rw [hr]
  congr 2
  apply ByteArray.ext
  apply Array.ext'
  simp
/-- A name, filled, is not empty: the reference's comparison tells what is asked. -/
theorem hit_eq (b t : List UInt8) (h : 1 ≤ b.length) : (fillI t 16 == b) = (nameB t && decide (fillL t 16 = b)) ∧ (fillI t 32 == b) = (nameB t && decide (fillL t 32 = b)) := by
  have hne : ([] == b) = false := by cases b with | nil => simp at h | cons c b => rfl
  have key : ∀ u : Int, (u = 16 ∨ u = 32) → (fillI t u == b) = (nameB t && decide (fillL t u.toNat = b)) := by
    intro u hu
    cases hq : nameB t with
    | false =>
      have h2 : fillB t u = false := by unfold fillB; rw [hq]; rfl
      unfold fillI
      rw [h2]
      simpa using hne
    | true =>
      have h2 : fillB t u = true := by unfold fillB; rw [hq, decide_eq_true hu]; rfl
      unfold fillI
      rw [h2, if_pos rfl, Bool.true_and, Bool.eq_iff_iff]
      simp
  exact ⟨key 16 (.inl rfl), key 32 (.inr rfl)⟩

set_option maxHeartbeats 4000000 in
theorem refStrip_any (b : List UInt8) (n : Nat) (w : World) (hn : b.length = n) (hl : n ≤ 1000000) :
    Calls Tryd.prog 15 #[.string { data := b.toArray }] w fun e w' => e = .returned (.tuple #[.string { data := (stripL b).toArray }, .bool (stripB b)]) ∧ w = w' := by
  have Hn := Lib.hid hn
  go_enter Tryd.func15, Tryd.ntmps15
  go_wp2
  go_loopw [4] (fun i wr => w = wr ∧ ∃ k : Nat, k ≤ 97 ∧ i = .int .i64 k ∧ Hid (1 ≤ k ∧ ∀ j, 1 ≤ j → j < k → hitB b (b.take j) = false)) (fun i _ => 97 - (intOf i).toNat)
  case atStart => exact ⟨rfl, 1, by omega, rfl, Nat.le_refl _, fun j h1 h2 => by omega⟩
  case round =>
    obtain ⟨rfl, k, hk, rfl, Hk⟩ := hrel
    by_cases h1 : n < k
    · have hb := Lib.hid (strip_none (b := b) fun j g1 g2 g3 => Hk.out.2 j g1 (by rw [Hn.out] at g3; omega))
      have h1i : ¬ (k : Int) ≤ n := by omega
      clear h1
      go_wp2
      go_ret2
      rw [hb.out.1, hb.out.2]; exact ⟨rfl, rfl⟩
    by_cases h2 : k = 97
    · have hb := Lib.hid (strip_none (b := b) fun j g1 g2 g3 => Hk.out.2 j g1 (by omega))
      have h1i : (k : Int) ≤ n := by omega
      have h2i : ¬ (k : Int) ≤ 96 := by omega
      clear h1 h2
      go_wp2
      go_ret2
      rw [hb.out.1, hb.out.2]; exact ⟨rfl, rfl⟩
    have h1i : (k : Int) ≤ n := by omega
    have h2i : (k : Int) ≤ 96 := by omega
    clear h1 h2
    have hsl : ∀ W : World, (Instr.slice 9 (.string { data := b.toArray }) none (some (.int .i64 (k : Int))) none).run Tryd.prog W = .ok (.string { data := (b.take k).toArray }) W := fun W => cutS b k (by rw [Hn.out]; omega) W
    obtain ⟨t, ht⟩ : ∃ t, b.take k = t := ⟨_, rfl⟩
    have htl : t.length = k := by rw [← ht, List.length_take, Hn.out]; omega
    have hq := hit_eq b t (by rw [Hn.out]; have := Hk.out.1; omega)
    have C1 := Lib.hid (refFill_any t k 16 w htl (by omega) (by omega) (by omega))
    have C2 := Lib.hid (refFill_any t k 32 w htl (by omega) (by omega) (by omega))
    rw [ht] at hsl
    obtain ⟨f1, hf1⟩ : ∃ f, fillI t 16 = f := ⟨_, rfl⟩
    obtain ⟨f2, hf2⟩ : ∃ f, fillI t 32 = f := ⟨_, rfl⟩
    obtain ⟨o1, ho1⟩ : ∃ o, fillB t 16 = o := ⟨_, rfl⟩
    obtain ⟨o2, ho2⟩ : ∃ o, fillB t 32 = o := ⟨_, rfl⟩
    rw [hf1, ho1] at C1
    rw [hf2, ho2] at C2
    rw [hf1, hf2] at hq
    have HQ := Lib.hid hq
    have Ht := Lib.hid ht
    have Htl := Lib.hid htl
    clear hf1 hf2 ho1 ho2 hq ht htl
    go_wp2_with fail
    refine C1.out.mono ?_
    rintro e w2 ⟨rfl, rfl⟩
    go_wp2_with fail
    refine C2.out.mono ?_
    rintro e w2 ⟨rfl, rfl⟩
    cases hh : hitB b t with
    | true =>
      have hb := Lib.hid (hit_strip hh)
      cases e1 : (f1 == b) with
      | true =>
        go_wp2
        go_ret2
        rw [hb.out.1, hb.out.2]; exact ⟨rfl, rfl⟩
      | false =>
        have e2 : (f2 == b) = true := by
          have h3 := hh
          unfold hitB at h3
          rw [HQ.out.1] at e1
          rw [HQ.out.2]
          revert h3 e1
          cases nameB t <;> cases decide (fillL t 16 = b) <;> cases decide (fillL t 32 = b) <;> decide
        go_wp2
        go_ret2
        rw [hb.out.1, hb.out.2]; exact ⟨rfl, rfl⟩
    | false =>
      have he : (f1 == b) = false ∧ (f2 == b) = false := by
        have h3 := hh
        unfold hitB at h3
        rw [HQ.out.1, HQ.out.2]
        revert h3
        cases nameB t <;> cases decide (fillL t 16 = b) <;> cases decide (fillL t 32 = b) <;> decide
      obtain ⟨e1, e2⟩ := he
      have HH := Lib.hid hh
      clear hh
      go_wp2
      go_roundw
      case rel => exact ⟨trivial, k + 1, by omega, by go_num, by omega, fun j g1 g2 => by
        by_cases hj : j = k
        · rw [hj, Ht.out]; exact HH.out
        · exact Hk.out.2 j g1 (by omega)⟩
      case measure => simp [intOf]; omega
end Go.Proofs.YtpfhpopfakfjhaaDoor.S10
