/-
  Contracts of the program's device: has, takes, call, Size, Count, Waiting, Wear, Limit, Raise.
-/
import Derived.Test.YteigfpgdnfladaaDqM
namespace Go.Proofs.Yteigfpgdnfladaa.S13
open Cf
open Go.RowKit
set_option linter.unusedVariables false
set_option linter.unusedSimpArgs false
def onErr (st : Dv) : Int := if isOn st then 0 else 10
theorem onErr_off {st : Dv} (h : isOn st = false) : onErr st = 10 := by unfold onErr; rw [h]; rfl
theorem onErr_on {st : Dv} (h : isOn st = true) : onErr st = 0 := by unfold onErr; rw [h]; rfl
theorem tickOff {st : Dv} (h : isOn st = false) : tick st = st := by
  unfold isOn at h
  have : st.calls = 0 := by simpa using h
  unfold tick
  rw [if_neg (by omega)]
section
variable {w w' : World} {G Bd Bl : Nat} {Ap : Option Addr} {L : List Pw} {left : Int} {st : Dv} {i : Nat}
theorem Pz.offG (h : Pz w G Bd Bl Ap L left st) (j : Nat) (u : Value) : Wr (w.setCell ⟨G, j, none⟩ u) L :=
  h.wr.keep fun p hp => heap_setCell_other w _ _ _ (fun e => h.ap p hp (.inl e))
theorem Pz.setLeft (h : Pz w G Bd Bl Ap L left st) (n c : Int) (hc : c = if n < 0 then -1 else n) (h0 : -9223372036854775808 ≤ n) (h1 : n < 9223372036854775808) : Pz (w.setCell ⟨G, 4, none⟩ (.int .i64 n)) G Bd Bl Ap L n { st with calls := c } :=
  { pr := h.pr.setLeft n, wr := h.offG 4 _, ap := h.ap, pend := h.pend, p2 := h.p2, calls := hc, l0 := h0, l1 := h1 }
theorem Pz.setCount (h : Pz w G Bd Bl Ap L left st) (n : Int) : Pz (w.setCell ⟨G, 3, none⟩ (.int .i64 n)) G Bd Bl Ap L left { st with count := n } :=
  { pr := h.pr.setCount n, wr := h.offG 3 _, ap := h.ap, pend := h.pend, p2 := h.p2, calls := h.calls, l0 := h.l0, l1 := h.l1 }
theorem Pz.chG (j : Nat) (u : Value) : Ch (FF G Bd Bl Ap L) w (w.setCell ⟨G, j, none⟩ u) := Ch.setCell (Ch.refl _ _) (p := ⟨G, j, none⟩) (.inl (.inl (.inl rfl))) _
theorem Pz.on0 (h : Pz w G Bd Bl Ap L left st) : isOn st = decide (left ≠ 0) := by
  unfold isOn
  rw [h.calls]
  by_cases h1 : left < 0
  · rw [if_pos h1]; exact (decide_eq_true (by omega)).trans (decide_eq_true (by omega)).symm
  · rw [if_neg h1]
theorem has_yes (h : Pz w G Bd Bl Ap L left st) (n : Int) (h0 : 0 ≤ n) (h1 : n < (st.kept.length : Int)) : Calls Try.prog 36 #[.pointer (some ⟨G, 0, none⟩), .int .i64 n] w fun e w' => e = .returned (.bool true) ∧ w' = w := by
  obtain ⟨cp, l1, c0, c1, c2, c3, c4⟩ := h.pr.cells
  obtain ⟨k, hk⟩ : ∃ k, k = st.kept.length := ⟨_, rfl⟩
  have q0 : w.cell? ⟨G, 0, none⟩ = some (.slice (some ⟨Bd, 0, none⟩) k k) := by rw [hk]; exact c0
  rw [← hk] at h1
  clear h hk c0 c1 c2 c3 c4 l1
  go_enter Try.func36, Try.ntmps36
  go_wp2
  go_ret
  exact ⟨rfl, rfl⟩
theorem has_no (h : Pz w G Bd Bl Ap L left st) (n : Int) (h1 : ¬ (0 ≤ n ∧ n < (st.kept.length : Int))) : Calls Try.prog 36 #[.pointer (some ⟨G, 0, none⟩), .int .i64 n] w fun e w' => e = .returned (.bool false) ∧ w' = w := by
  obtain ⟨cp, l1, c0, c1, c2, c3, c4⟩ := h.pr.cells
  obtain ⟨k, hk⟩ : ∃ k, k = st.kept.length := ⟨_, rfl⟩
  have q0 : w.cell? ⟨G, 0, none⟩ = some (.slice (some ⟨Bd, 0, none⟩) k k) := by rw [hk]; exact c0
  rw [← hk] at h1
  clear h hk c0 c1 c2 c3 c4 l1
  by_cases hn : 0 ≤ n
  · have hn2 : ¬ n < (k : Int) := by omega
    clear h1
    go_enter Try.func36, Try.ntmps36
    go_wp2
    go_ret
    exact ⟨rfl, rfl⟩
  · clear h1
    go_enter Try.func36, Try.ntmps36
    go_wp2
    go_ret
    exact ⟨rfl, rfl⟩
theorem takes_no1 (h : Pz w G Bd Bl Ap L left st) (n : Int) (h1 : ¬ (0 ≤ n ∧ n < (st.kept.length : Int))) (A2 : Option Addr) (n2 c2 : Nat) : Calls Try.prog 32 #[.pointer (some ⟨G, 0, none⟩), .int .i64 n, .slice A2 n2 c2] w fun e w' => e = .returned (.bool false) ∧ w' = w := by
  have HC := Lib.hid (has_no h n h1)
  clear h h1
  go_enter Try.func32, Try.ntmps32
  go_wp2_with fail
  refine HC.out.mono ?_
  rintro e w1 ⟨rfl, rfl⟩
  clear HC
  go_wp2
  go_ret
  exact ⟨rfl, rfl⟩
theorem takes_in (h : Pz w G Bd Bl Ap L left st) (n : Int) (h0 : 0 ≤ n) (h1 : n < (st.kept.length : Int)) (A2 : Option Addr) (n2 c2 : Nat) : Calls Try.prog 32 #[.pointer (some ⟨G, 0, none⟩), .int .i64 n, .slice A2 n2 c2] w fun e w' => e = .returned (.bool (decide (n2 ≤ 512))) ∧ w' = w := by
  have HC := Lib.hid (has_yes h n h0 h1)
  clear h h0 h1
  by_cases hn : n2 ≤ 512
  · have b : (n2 : Int) ≤ 512 := by omega
    rw [decide_eq_true hn]
    clear hn
    go_enter Try.func32, Try.ntmps32
    go_wp2_with fail
    refine HC.out.mono ?_
    rintro e w1 ⟨rfl, rfl⟩
    clear HC
    go_wp2
    go_ret
    exact ⟨by simp, rfl⟩
  · have b : ¬ (n2 : Int) ≤ 512 := by omega
    rw [decide_eq_false hn]
    clear hn
    go_enter Try.func32, Try.ntmps32
    go_wp2_with fail
    refine HC.out.mono ?_
    rintro e w1 ⟨rfl, rfl⟩
    clear HC
    go_wp2
    go_ret
    exact ⟨by simp; omega, rfl⟩
/-- A call is counted. -/
theorem call_any (h : Pz w G Bd Bl Ap L left st) : Calls Try.prog 33 #[.pointer (some ⟨G, 0, none⟩)] w fun e w' => e = .returned (.int .i64 (onErr st)) ∧ (∃ left', Pz w' G Bd Bl Ap L left' (tick st)) ∧ Ch (FF G Bd Bl Ap L) w w' := by
  obtain ⟨cp, l1, c0, c1, c2, c3, c4⟩ := h.pr.cells
  have hf := h.pr.frozen 4
  have H := Lib.hid h
  have k0 := h.l0
  have k1 := h.l1
  have HO := Lib.hid h.on0
  have HCl := Lib.hid h.calls
  have q4 : w.cell? ⟨G, 4, none⟩ = some (.int .i64 left) := c4
  clear h c0 c1 c2 c3 c4 l1
  by_cases h1 : left = 0
  · subst h1
    have HOn := Lib.hid (show isOn st = false from HO.out.trans (decide_eq_false (by omega)))
    have HT := Lib.hid (tickOff HOn.out)
    go_enter Try.func33, Try.ntmps33
    go_wp2
    go_ret
    rw [onErr_off HOn.out, HT.out]
    exact ⟨rfl, ⟨0, H.out⟩, Ch.refl _ _⟩
  · have HOn := Lib.hid (show isOn st = true from HO.out.trans (decide_eq_true (by omega)))
    have b1 : (left == 0) = false := by simpa using h1
    by_cases h2 : left > 0
    · have HT := Lib.hid (show tick st = { st with calls := left - 1 } by unfold tick; rw [HCl.out, if_neg (show ¬ left < 0 by omega), if_pos h2])
      have hw : IntKind.i64.wrap (left - 1) = left - 1 := by rw [IntKind.wrap_i64]; omega
      clear h1
      go_enter Try.func33, Try.ntmps33
      go_wp2
      go_ret
      rw [onErr_on HOn.out, HT.out]
      exact ⟨rfl, ⟨left - 1, H.out.setLeft _ _ (by rw [if_neg (by omega)]) (by omega) (by omega)⟩, Pz.chG _ _⟩
    · have HT := Lib.hid (show tick st = st by unfold tick; rw [HCl.out, if_pos (show left < 0 by omega)]; rfl)
      clear h1
      go_enter Try.func33, Try.ntmps33
      go_wp2
      go_ret
      rw [onErr_on HOn.out, HT.out]
      exact ⟨rfl, ⟨left, H.out⟩, Ch.refl _ _⟩
theorem size_any (h : Pz w G Bd Bl Ap L left st) : Calls Try.prog 9 #[.pointer (some ⟨G, 0, none⟩)] w fun e w' => e = .returned (.int .i64 (st.kept.length : Int)) ∧ w' = w := by
  obtain ⟨cp, l1, c0, c1, c2, c3, c4⟩ := h.pr.cells
  clear h c1 c2 c3 c4 l1
  go_enter Try.func9, Try.ntmps9
  go_wp2
  go_ret
  exact ⟨rfl, rfl⟩
theorem count_any (h : Pz w G Bd Bl Ap L left st) : Calls Try.prog 27 #[.pointer (some ⟨G, 0, none⟩)] w fun e w' => e = .returned (.int .i64 st.count) ∧ w' = w := by
  obtain ⟨cp, l1, c0, c1, c2, c3, c4⟩ := h.pr.cells
  clear h c0 c1 c2 c4 l1
  go_enter Try.func27, Try.ntmps27
  go_wp2
  go_ret
  exact ⟨rfl, rfl⟩
theorem waits_any (h : Pz w G Bd Bl Ap L left st) : Calls Try.prog 28 #[.pointer (some ⟨G, 0, none⟩)] w fun e w' => e = .returned (.int .i64 (st.pend.length : Int)) ∧ w' = w := by
  obtain ⟨cp, l1, c0, c1, c2, c3, c4⟩ := h.pr.cells
  have hl : (L.map (·.1)).length = st.pend.length := by rw [← h.pend, List.length_map, List.length_map]
  rw [show (Ps.mk st.kept (L.map (·.1)) (latRow st.kept.length L) st.count left).row.length = st.pend.length from hl] at c1 l1
  clear h c0 c2 c3 c4 hl
  go_enter Try.func28, Try.ntmps28
  go_wp2
  go_ret
  exact ⟨rfl, rfl⟩
theorem limit_any (h : Pz w G Bd Bl Ap L left st) (n : Int) (h0 : -9223372036854775808 ≤ n) (h1 : n < 9223372036854775808) : Calls Try.prog 21 #[.pointer (some ⟨G, 0, none⟩), .int .i64 n] w fun e w' => e = .returned (.tuple #[]) ∧ Pz w' G Bd Bl Ap L n (dvLimit st n) ∧ Ch (FF G Bd Bl Ap L) w w' := by
  obtain ⟨cp, l1, c0, c1, c2, c3, c4⟩ := h.pr.cells
  have hf := h.pr.frozen 4
  have H := Lib.hid h
  have q4 : w.cell? ⟨G, 4, none⟩ = some (.int .i64 left) := c4
  clear h c0 c1 c2 c3 c4 l1
  go_enter Try.func21, Try.ntmps21
  go_wp2
  refine bodyPost_end (results_none rfl _ _ _) rfl ?_
  exact ⟨rfl, H.out.setLeft n _ rfl h0 h1, Pz.chG _ _⟩
theorem wear_any (h : Pz w G Bd Bl Ap L left st) (n : Int) : Calls Try.prog 19 #[.pointer (some ⟨G, 0, none⟩), .int .i64 n] w fun e w' => e = .returned (.tuple #[]) ∧ Pz w' G Bd Bl Ap L left (dvWear st n) ∧ Ch (FF G Bd Bl Ap L) w w' := by
  obtain ⟨cp, l1, c0, c1, c2, c3, c4⟩ := h.pr.cells
  have hf := h.pr.frozen 3
  have H := Lib.hid h
  have q3 : w.cell? ⟨G, 3, none⟩ = some (.int .i64 st.count) := c3
  clear h c0 c1 c2 c3 c4 l1
  go_enter Try.func19, Try.ntmps19
  go_wp2
  all_goals
    refine bodyPost_end (results_none rfl _ _ _) rfl ?_
    refine ⟨rfl, ?_, Pz.chG _ _⟩
    unfold dvWear maxCount
    first
      | (rw [show max st.count (min n 281474976710656) = 281474976710656 by omega]; exact H.out.setCount _)
      | (rw [show max st.count (min n 281474976710656) = n by omega]; exact H.out.setCount _)
      | (rw [show max st.count (min n 281474976710656) = st.count by omega]; exact H.out.setCount _)
theorem raise_any (h : Pz w G Bd Bl Ap L left st) (hk : Ok st i) : Calls Try.prog 17 #[.pointer (some ⟨G, 0, none⟩)] w fun e w' => e = .returned (.int .i64 (dvRaise st).1) ∧ (∃ left', Pz w' G Bd Bl Ap L left' (dvRaise st).2) ∧ Ch (FF G Bd Bl Ap L) w w' := by
  have HC := Lib.hid (call_any h)
  have k0 := hk.c0
  have k1 := hk.c1
  clear h
  go_enter Try.func17, Try.ntmps17
  go_wp2_with fail
  refine HC.out.mono ?_
  rintro e w1 ⟨rfl, ⟨left', hz⟩, hc⟩
  have HZ := Lib.hid hz
  have HCh := Lib.hid hc
  clear hz hc HC
  cases hon : isOn st with
  | false =>
    rw [onErr_off hon]
    have HE := Lib.hid (show dvRaise st = (10, st) by unfold dvRaise; rw [hon]; rfl)
    have HT := Lib.hid (tickOff hon)
    clear hon
    go_wp2
    go_ret
    rw [HE.out]
    exact ⟨rfl, ⟨left', HT.out ▸ HZ.out⟩, HCh.out⟩
  | true =>
    rw [onErr_on hon]
    obtain ⟨cp, l1, c0, c1, c2, c3, c4⟩ := HZ.out.pr.cells
    have hf := HZ.out.pr.frozen 3
    have q3 : w1.cell? ⟨G, 3, none⟩ = some (.int .i64 st.count) := c3.trans (by rw [tick_count])
    clear c0 c1 c2 c3 c4 l1
    by_cases hm : st.count = maxCount
    · have HE := Lib.hid (show dvRaise st = (11, tick st) by unfold dvRaise; rw [hon, if_pos rfl, if_pos (by omega)])
      rw [hm] at q3
      have q3' : w1.cell? ⟨G, 3, none⟩ = some (.int .i64 281474976710656) := q3
      clear hon hm k0 k1 hk q3
      go_wp2
      go_ret
      rw [HE.out]
      exact ⟨rfl, ⟨left', HZ.out⟩, HCh.out⟩
    · have HE := Lib.hid (show dvRaise st = (0, { tick st with count := st.count + 1 }) by unfold dvRaise; rw [hon, if_pos rfl, if_neg (by omega)])
      have b1 : (st.count == 281474976710656) = false := by unfold maxCount at hm; simpa using hm
      have hw : IntKind.i64.wrap (st.count + 1) = st.count + 1 := by unfold maxCount at k1; rw [IntKind.wrap_i64]; omega
      clear hon hk
      go_wp2
      go_ret
      rw [HE.out]
      exact ⟨rfl, ⟨left', HZ.out.setCount _⟩, HCh.out.setCell (p := ⟨G, 3, none⟩) (.inl (.inl (.inl rfl))) _⟩
end
end Go.Proofs.Yteigfpgdnfladaa.S13
