/-
  Contract of the program's exchangeLast (cts); pieces of 16 bytes, padded; what encryption and decryption make of them, on lists.
-/
import Derived.Test.YtgfmdjagggnfbaaXqR
import Derived.Test.YtgfmdjagggnfbaaOfi
import Derived.Test.YtgfmdjagggnfbaaCtL
namespace Go.Proofs.Ytgfmdjagggnfbaa.S9
open Go.RowKit
open Go.Proofs.Ytgfmdjagggnfbaa.S7 hiding intOf
open Go.Proofs.Ytgfmdjagggnfbaa.S8 (Br xorL xorL_len z16)
set_option linter.unusedVariables false
set_option linter.unusedSimpArgs false

/-- The blocks of 16 bytes at o and at o + 16 exchanged, as far as their first t bytes. -/
def swF (l : List UInt8) (o t p : Nat) : UInt8 := if o ≤ p ∧ p < o + t then gt l (p + 16) else if o + 16 ≤ p ∧ p < o + 16 + t then gt l (p - 16) else gt l p
def sw (l : List UInt8) (o t : Nat) : List UInt8 := (List.range l.length).map (swF l o t)
theorem sw_len (l : List UInt8) (o t : Nat) : (sw l o t).length = l.length := by simp [sw]
theorem sw_get (l : List UInt8) (o t p : Nat) (h : p < (sw l o t).length) : (sw l o t)[p] = swF l o t p := by simp [sw]
theorem gt_get (l : List UInt8) (p : Nat) (h : p < l.length) : gt l p = l[p] := by simp [gt, h]
theorem gt_sw (l : List UInt8) (o t p : Nat) (h : p < l.length) : gt (sw l o t) p = swF l o t p := by
  rw [gt_get _ _ (by rw [sw_len]; exact h), sw_get]
theorem sw_zero (l : List UInt8) (o : Nat) : sw l o 0 = l := by
  apply List.ext_getElem (sw_len _ _ _)
  intro p h1 h2
  rw [sw_get]
  unfold swF
  rw [if_neg (by omega), if_neg (by omega), gt_get l p h2]
theorem sw_step (l : List UInt8) (o t : Nat) (ht : t < 16) (h : o + 32 ≤ l.length) : ((sw l o t).set (o + t) (gt l (o + t + 16))).set (o + t + 16) (gt l (o + t)) = sw l o (t + 1) := by
  apply List.ext_getElem
  · simp [sw_len]
  · intro p h1 h2
    rw [List.getElem_set, List.getElem_set]
    rw [sw_get l o (t + 1)]
    by_cases e1 : o + t + 16 = p
    · subst e1
      rw [if_pos rfl]
      unfold swF
      rw [if_neg (by omega), if_pos (by omega)]
      congr 1
    · rw [if_neg e1]
      by_cases e2 : o + t = p
      · subst e2
        rw [if_pos rfl]
        unfold swF
        rw [if_pos (by omega)]
      · rw [if_neg e2, sw_get l o t]
        unfold swF
        by_cases e3 : o ≤ p ∧ p < o + t
        · have f3 : o ≤ p ∧ p < o + (t + 1) := by omega
          simp only [if_pos e3, if_pos f3]
        · have f3 : ¬ (o ≤ p ∧ p < o + (t + 1)) := by omega
          simp only [if_neg e3, if_neg f3]
          by_cases e4 : o + 16 ≤ p ∧ p < o + 16 + t
          · have f4 : o + 16 ≤ p ∧ p < o + 16 + (t + 1) := by omega
            simp only [if_pos e4, if_pos f4]
          · have f4 : ¬ (o + 16 ≤ p ∧ p < o + 16 + (t + 1)) := by omega
            simp only [if_neg e4, if_neg f4]
theorem sw_lo (l : List UInt8) (o t : Nat) (ht : t < 16) (h : o + 32 ≤ l.length) : gt (sw l o t) (o + t) = gt l (o + t) := by
  rw [gt_sw _ _ _ _ (by omega)]
  unfold swF
  rw [if_neg (by omega), if_neg (by omega)]
theorem sw_hi (l : List UInt8) (o t : Nat) (ht : t < 16) (h : o + 32 ≤ l.length) : gt (sw l o t) (o + t + 16) = gt l (o + t + 16) := by
  rw [gt_sw _ _ _ _ (by omega)]
  unfold swF
  rw [if_neg (by omega), if_neg (by omega)]

section
variable {w w' : World} {base g c : Nat} {l : List UInt8}
theorem Own.cellAt (h : Own w base (some ⟨g, 0, none⟩) c l) (j : Nat) (hj : j < l.length) : w.cell? ⟨g, j, none⟩ = some (.int .u8 ((gt l j).toNat : Int)) := by
  rw [World.ownsRow.cellAt h j (by omega)]
  simp [bvs, bv, gt, hj]
theorem Own.freeAt (h : Own w base (some ⟨g, 0, none⟩) c l) (j : Nat) : w.frozen? ⟨g, j, none⟩ = false := World.ownsRow.frozenAt h j
theorem Own.putAt (h : Own w base (some ⟨g, 0, none⟩) c l) (j : Nat) (x : UInt8) : Own (w.setCell ⟨g, j, none⟩ (.int .u8 (x.toNat : Int))) base (some ⟨g, 0, none⟩) c (l.set j x) := by
  have := (World.ownsRow.stored h j (.int .u8 (x.toNat : Int))).1
  unfold Own
  rw [show bvs (l.set j x) = (bvs l).set j (.int .u8 (x.toNat : Int)) by simp [bvs, bv, List.map_set], List.length_set]
  exact this
theorem grown_setCell (h : w.grownBy w' (some g)) (j : Nat) (u : Value) : w.grownBy (w'.setCell ⟨g, j, none⟩ u) (some g) :=
  ⟨h.os, h.tape, h.output, by simpa using h.size, fun k hk hne => (heap_setCell_other w' ⟨g, j, none⟩ k u (fun e => hne (by simp [e]))).trans (h.block k hk hne)⟩
end

set_option maxHeartbeats 4000000 in
set_option maxRecDepth 20000 in
theorem exch_any (g c n o base : Nat) (l : List UInt8) (w : World) (hn : l.length = n) (ho : n = o + 32) (hc : n ≤ 100000) (h : Own w base (some ⟨g, 0, none⟩) c l) :
    Calls Try.prog 29 #[.slice (some ⟨g, 0, none⟩) n c] w fun e w' => e = .returned (.tuple #[]) ∧ Own w' base (some ⟨g, 0, none⟩) c (sw l o 16) ∧ w.grownBy w' (some g) := by
  have HL := Lib.hid (show o + 32 ≤ l.length by omega)
  have HO := Lib.hid ho
  have H0 := Lib.hid (show Own w base (some ⟨g, 0, none⟩) c (sw l o 0) by rw [sw_zero]; exact h)
  have b1 : ¬ (n : Int) < 32 := by omega
  obtain ⟨i0, hi0⟩ : ∃ i0 : Nat, i0 = o + 16 := ⟨_, rfl⟩
  have e1 : (n : Int) - 16 = (i0 : Int) := by omega
  have HI := Lib.hid hi0
  clear hn ho h hi0
  go_enter Try.func29, Try.ntmps29
  go_wp2
  go_loopw [2] (fun v2 wr => ∃ t k i : Nat, t ≤ 16 ∧ v2 = .int .i64 (i : Int) ∧ i ≤ n ∧ Hid (k = o + t) ∧ Hid (i = k + 16) ∧ Hid (Own wr base (some ⟨g, 0, none⟩) c (sw l o t)) ∧ Hid (w.grownBy wr (some g))) (fun v2 _ => n - (intOf v2).toNat)
  case atStart => exact ⟨0, o, i0, by omega, rfl, by have := HO.out; have := HI.out; omega, rfl, HI.out, H0.out, ⟨rfl, rfl, rfl, Nat.le_refl _, fun _ _ _ => rfl⟩⟩
  case round =>
    clear H0 e1 b1 HI
    obtain ⟨t, k, i, ht, rfl, hin, Hk, Hi, H, Hg⟩ := hrel
    have Hin := Lib.hid hin
    clear hin
    by_cases hlt : i < n
    · have bi : (i : Int) < (n : Int) := by omega
      have ht16 : t < 16 := by have := HO.out; have := Hk.out; have := Hi.out; omega
      have ek : (i : Int) - 16 = (k : Int) := by have := Hi.out; omega
      have hll := sw_len l o t
      obtain ⟨x, hx⟩ : ∃ x, x = gt l k := ⟨_, rfl⟩
      obtain ⟨y, hy⟩ : ∃ y, y = gt l i := ⟨_, rfl⟩
      have hc1 : wr.cell? ⟨g, k, none⟩ = some (.int .u8 (x.toNat : Int)) := by
        rw [Own.cellAt H.out k (by rw [sw_len]; have := HL.out; have := Hk.out; omega), hx, Hk.out, sw_lo l o t ht16 HL.out]
      have hc2 : wr.cell? ⟨g, i, none⟩ = some (.int .u8 (y.toNat : Int)) := by
        rw [Own.cellAt H.out i (by rw [sw_len]; have := HL.out; have := Hk.out; have := Hi.out; omega), hy, Hi.out, Hk.out, sw_hi l o t ht16 HL.out]
      have hf1 := Own.freeAt H.out k
      have hf2 := Own.freeAt H.out i
      have hki : (k : Int) < (n : Int) := by have := Hi.out; omega
      have hk0 : ¬ (k : Int) < 0 := by omega
      have hne : i ≠ k := by have := Hi.out; omega
      have HX := Lib.hid hx
      have HY := Lib.hid hy
      clear hx hy hll hlt
      go_wp2
      go_region
      all_goals
        have hsz := HL.out
        obtain rfl : k = o + t := Hk.out
        obtain rfl : i = o + t + 16 := Hi.out
        clear hc1 hc2 hf1 hf2 ek hki hk0
        have HP := Lib.hid (show Own ((wr.setCell ⟨g, o + t, none⟩ (.int .u8 (y.toNat : Int))).setCell ⟨g, o + t + 16, none⟩ (.int .u8 (x.toNat : Int))) base (some ⟨g, 0, none⟩) c (sw l o (t + 1)) by
          rw [← sw_step l o t ht16 HL.out, ← HX.out, ← HY.out]
          exact Own.putAt (Own.putAt H.out _ _) _ _)
        have HQ := Lib.hid (grown_setCell (grown_setCell Hg.out (o + t) (.int .u8 (y.toNat : Int))) (o + t + 16) (.int .u8 (x.toNat : Int)))
        clear H Hg HX HY
        go_wp2
        go_roundw
        case rel => exact ⟨t + 1, o + t + 1, o + t + 16 + 1, by omega, by go_num, by have := HO.out; omega, by show _ = _; omega, by show _ = _; omega, HP.out, ⟨HQ.out.os, HQ.out.tape, HQ.out.output, HQ.out.size, HQ.out.block⟩⟩
        case measure => simp [intOf]; omega
    · have bi : ¬ (i : Int) < (n : Int) := by omega
      have ht16 : t = 16 := by have := HO.out; have := Hk.out; have := Hi.out; omega
      have H9 := Lib.hid (show Own wr base (some ⟨g, 0, none⟩) c (sw l o 16) by rw [← ht16]; exact H.out)
      clear H ht16
      go_wp2
      first | go_end0 | refine bodyPost_ret (results_none rfl _ _ _) rfl ?_
      exact ⟨rfl, H9.out, Hg.out⟩
theorem exch_no (A : Option Addr) (c n : Nat) (w : World) (hn : n < 32) :
    Calls Try.prog 29 #[.slice A n c] w fun e w' => e = .returned (.tuple #[]) ∧ w' = w := by
  have b1 : (n : Int) < 32 := by omega
  go_enter Try.func29, Try.ntmps29
  go_wp2
  first | go_end0 | refine bodyPost_ret (results_none rfl _ _ _) rfl ?_
  exact ⟨rfl, rfl⟩
/-- Piece i. -/
def pc (b : List UInt8) (i : Nat) : List UInt8 := (b.drop (16 * i)).take 16
theorem pc_len (b : List UInt8) (i : Nat) : (pc b i).length = min 16 (b.length - 16 * i) := by simp [pc]
theorem nb_pos (L : Nat) (h : 0 < L) : nb L = nb (L - 16) + 1 := by unfold nb; omega
theorem cutL_pc (b : List UInt8) : cutL 16 b = (List.range (nb b.length)).map (pc b) := by
  obtain ⟨n, hn⟩ : ∃ n, n = nb b.length := ⟨_, rfl⟩
  rw [← hn]
  induction n generalizing b with
  | zero =>
    have : b = [] := List.eq_nil_of_length_eq_zero (by unfold nb at hn; omega)
    subst this
    rw [cutL_nil]
    rfl
  | succ n ih =>
    have hp : 0 < b.length := by unfold nb at hn; omega
    rw [cutL_step 16 b hp (by omega), ih (b.drop 16) (by rw [List.length_drop]; have := nb_pos _ hp; omega), List.range_succ_eq_map, List.map_cons, List.map_map]
    congr 1
    apply List.map_congr_left
    intro i _
    show ((b.drop 16).drop (16 * i)).take 16 = (b.drop (16 * (i + 1))).take 16
    rw [List.drop_drop, show 16 + 16 * i = 16 * (i + 1) by omega]
theorem cutL_len (b : List UInt8) : (cutL 16 b).length = nb b.length := by rw [cutL_pc]; simp
theorem cutL_get (b : List UInt8) (i : Nat) (h : i < (cutL 16 b).length) : (cutL 16 b)[i] = pc b i := by simp [cutL_pc]
theorem gt_fill (l : List UInt8) (m j : Nat) : gt (fillL l m) j = gt l j := by
  unfold fillL
  by_cases h : j < l.length
  · rw [gt_left _ _ _ h]
  · rw [gt_right _ _ _ (by omega), gt_over l j (by omega)]
    simp only [gt, List.getD_eq_getElem?_getD, List.getElem?_replicate]
    split <;> rfl
theorem gt_drop (l : List UInt8) (k j : Nat) : gt (l.drop k) j = gt l (k + j) := by simp [gt, List.getD_eq_getElem?_getD]
theorem gt_pc (b : List UInt8) (i j : Nat) (h : j < 16) : gt (pc b i) j = gt b (16 * i + j) := by
  unfold pc
  rw [gt_take, if_pos h, gt_drop]
theorem fill_pc (b : List UInt8) (i : Nat) : fillL (pc b i) 16 = pb b i := by
  apply ext_gt
  · rw [fillL_len, pb_len, pc_len]; omega
  · intro j hj
    rw [fillL_len, pc_len] at hj
    rw [gt_fill, gt_pc _ _ _ (by omega), gt_pb _ _ _ (by omega)]
theorem pc_full (b : List UInt8) (i : Nat) (h : 16 * i + 16 ≤ b.length) : pc b i = pb b i := by
  apply ext_gt
  · rw [pb_len, pc_len]; omega
  · intro j hj
    rw [pc_len] at hj
    rw [gt_pc _ _ _ (by omega), gt_pb _ _ _ (by omega)]
/-- The chain's blocks. -/
def cE (W b : List UInt8) (i : Nat) : List UInt8 := cc W b (i + 1)
theorem cE_len (W b : List UInt8) (i : Nat) : (cE W b i).length = 16 := cc_len _ _ _
/-- One block alone: as the chain has it. -/
theorem ctsE_lone (W b : List UInt8) (h : nb b.length = 1) : (jB (cE W b) 1).take b.length = ctsE W b := by
  have e : eB W b 1 0 = cE W b 0 := by unfold eB cE; rw [if_neg (by omega), if_pos (Or.inr rfl)]
  unfold ctsE
  rw [h]
  have e2 : jB (cE W b) 1 = jB (eB W b 1) 1 := jB_congr _ _ 1 (fun i hi => by
    obtain rfl : i = 0 := by omega
    exact e.symm)
  rw [e2]
/-- Of two blocks and more the last two are exchanged. -/
theorem ctsE_swap (W b : List UInt8) (m : Nat) (h : nb b.length = m + 2) : (sw (jB (cE W b) (m + 2)) (16 * m) 16).take b.length = ctsE W b := by
  have hl := jB_len (cE W b) (cE_len W b) (m + 2)
  have hl2 := jB_len (eB W b (m + 2)) (eB_len W b (m + 2)) (m + 2)
  unfold ctsE
  rw [h]
  congr 1
  apply ext_gt
  · rw [sw_len, hl, hl2]
  · intro p hp
    rw [sw_len, hl] at hp
    rw [gt_sw _ _ _ _ (by omega)]
    obtain ⟨q, r, e, hr⟩ : ∃ q r, p = 16 * q + r ∧ r < 16 := ⟨p / 16, p % 16, by omega, by omega⟩
    subst e
    rw [gt_jB _ (eB_len W b _) _ q r (by omega) hr]
    unfold swF eB
    by_cases c1 : q = m
    · subst c1
      rw [if_pos (by omega), if_neg (by omega), if_pos (by omega), show 16 * q + r + 16 = 16 * (q + 1) + r by omega, gt_jB _ (cE_len W b) _ _ _ (by omega) hr, cE]
    · rw [if_neg (by omega)]
      by_cases c2 : q = m + 1
      · subst c2
        rw [if_pos (by omega), if_neg (by omega), if_neg (by omega), show 16 * (m + 1) + r - 16 = 16 * m + r by omega, gt_jB _ (cE_len W b) _ _ _ (by omega) hr, cE, show m + 2 - 1 = m + 1 by omega]
      · rw [if_neg (by omega), if_pos (by omega), gt_jB _ (cE_len W b) _ _ _ (by omega) hr, cE]
end Go.Proofs.Ytgfmdjagggnfbaa.S9
