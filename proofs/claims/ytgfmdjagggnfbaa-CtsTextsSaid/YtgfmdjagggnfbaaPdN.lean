/-
  Contract of the program's New.
-/
import Derived.Test.YtgfmdjagggnfbaaPdX
import Derived.Test.YtgfmdjagggnfbaaPdS
import Derived.Test.YtgfmdjagggnfbaaPdM
namespace Go.Proofs.Ytgfmdjagggnfbaa.S7
open Go.RowKit
set_option linter.unusedVariables false
set_option linter.unusedSimpArgs false

/-- Where New stands: the cipher's block, its inverse as far as L. -/
def NwIn (w wr : World) (G : Nat) (L : List UInt8) : Prop := Below G w wr ∧ Bk wr G 44 (nw L)
theorem NwIn.put {w wr : World} {G : Nat} {L : List UInt8} (h : NwIn w wr G L) (x : Nat) (v : UInt8) : NwIn w (wr.setCell ⟨G, 496 + x, none⟩ (.int .u8 (v.toNat : Int))) G (L.set x v) :=
  ⟨h.1.setCell (Nat.le_refl _) _, by rw [← nw_set]; exact h.2.put _ _⟩
theorem ci_of {w : World} {G : Nat} {W : List UInt8} (hW : W.length = 240) (h : Bk w G 44 (wz W)) : Ci w G W := by
  have hl := wz_len W (by omega)
  refine ⟨⟨h.lt, fun j hj => ?_⟩, fun j hj => ?_, fun j hj => ?_⟩
  · rw [h.cell j (by omega), gt_wz W j (by omega)]
  · rw [h.cell (240 + j) (by omega), gt_TT W (by omega), gt_SB j hj]
  · rw [h.cell (496 + j) (by omega), show 496 + j = 240 + (256 + j) by omega, gt_TT W (by omega), gt_SI]
/-- What New makes of a key of 32 bytes. -/
def NewOk (w : World) (k : List UInt8) (e : Ending) (w' : World) : Prop := ∃ G, e = .returned (.tuple #[.pointer (some ⟨G, 0, none⟩), .int .i64 0]) ∧ w.heap.size ≤ G ∧ Ci w' G (keysL k) ∧ Grown w w'

set_option maxHeartbeats 4000000 in
set_option maxRecDepth 100000 in
theorem new_any (A : Option Addr) (c : Nat) (k : List UInt8) (hk : k.length = 32) (hc : 32 ≤ c) (w : World) (hR : Rd w w.heap.size A k) :
    Calls Try.prog 7 #[.slice A 32 c] w (NewOk w k) := by
  have HK := Lib.hid hk
  have HR := Lib.hid hR
  clear hk hR
  go_enter Try.func7, Try.ntmps7
  go_wp2_with fail
  refine (subst_any _).mono ?_
  rintro e w1 ⟨rfl, hg1⟩
  have HG1 := Lib.hid hg1
  have HR1 := Lib.hid (HR.out.grow hg1)
  clear hg1 HR
  obtain ⟨D, hD⟩ : ∃ D, D = (bvs (nw (List.replicate 256 0))).toArray := ⟨_, rfl⟩
  obtain ⟨T, hT⟩ : ∃ T, T = bvs SB := ⟨_, rfl⟩
  have hbd : ∀ W : World, (Instr.build 44 #[(1, .agg T.toArray)]).run Try.prog W = .ok (.agg D) W := by rw [hD, hT]; exact build_ci
  have Hbd := Lib.hid hbd
  have HD := Lib.hid hD
  have HT := Lib.hid hT
  rw [← hT]
  clear hD hbd hT
  obtain ⟨G, hG⟩ : ∃ G, G = w1.heap.size := ⟨_, rfl⟩
  have H0 := Lib.hid (show NwIn w1 (w1.alloc (.cells D 44)) G (inT 0) from ⟨by rw [hG]; exact alloc_below w1 _, by rw [hG, HD.out, inT_zero]; exact Bk.new w1 _ _⟩)
  have HwG := Lib.hid (show w.heap.size ≤ G by rw [hG]; exact HG1.out.size)
  have HR2 := Lib.hid (show Rd w1 G A k by rw [hG]; exact HR1.out)
  have HiS := Lib.hid (show (Try.prog.info? 39).map (·.size) = some T.length by rw [HT.out, bvs_length, SB_len]; exact i256)
  have Hran := Lib.hid (show (w1.alloc (.cells D 44)).rangeAt w1.heap.size 240 T by
    rw [← hG, HT.out]
    intro j v hv
    have hj : j < 256 := by
      have := (List.getElem?_eq_some_iff.1 hv).1
      rw [bvs_length, SB_len] at this
      exact this
    rw [H0.out.2.cell (240 + j) (by rw [nw_len _ (inT_len 0)]; omega), gt_nw _ j hj]
    rw [← hv]
    simp [bvs, bv, gt, SB_len, hj])
  have HGe := Lib.hid hG
  clear HR1 HD hG
  go_wp2_with (first
    | (refine wpList_build1 rfl 44 (.tmp 10) rfl (u := .agg T.toArray) (v := .agg D) rfl (Hbd.out _) ?_)
    | (refine wpList_load_mid rfl 39 (.tmp 15) rfl w1.heap.size 240 rfl T _ Hran.out u256 rfl HiS.out ?_))
  rw [← HGe.out]
  clear Hran HiS Hbd
  generalize w1.alloc _ = w2 at H0 ⊢
  go_loopw [17] (fun v17 wr => ∃ t : Nat, v17 = .int .i64 (t : Int) ∧ t ≤ 256 ∧ Hid (NwIn w1 wr G (inT t))) (fun v17 _ => 256 - (intOf v17).toNat)
  case atStart => exact ⟨0, rfl, by omega, H0.out⟩
  case round =>
    clear H0
    obtain ⟨t, rfl, ht, H⟩ := hrel
    by_cases hlt : t < 256
    · obtain ⟨x, hx⟩ : ∃ x, x = gt SB t := ⟨_, rfl⟩
      have hix : ∀ W : World, (Instr.index 39 (.agg T.toArray) (.int .i64 (t : Int))).run Try.prog W = .ok (.int .u8 (x.toNat : Int)) W := fun W => by rw [hx, HT.out]; exact idxB u256 SB_len t hlt W
      obtain ⟨v, hv⟩ : ∃ v, v = UInt8.ofNat t := ⟨_, rfl⟩
      have hvt : v.toNat = t := by rw [hv, UInt8.toNat_ofNat']; omega
      have hxl := u8_lt x
      have yc := H.out.2.cell (496 + x.toNat) (by rw [nw_len _ (inT_len t)]; omega)
      have yf := H.out.2.free (496 + x.toNat)
      have HN := Lib.hid (show (inT t).set x.toNat v = inT (t + 1) by rw [hx, hv]; exact inT_next t hlt)
      have wt : IntKind.u8.wrap (t : Int) = (v.toNat : Int) := by rw [IntKind.wrap_u8, hvt]; omega
      have wt2 : (t : Int) % 256 = (v.toNat : Int) := by rw [hvt]; omega
      have HV := Lib.hid hvt
      have bt : (t : Int) < 256 := by omega
      clear hx hv hvt
      go_wp2
      go_roundw
      case rel => exact ⟨t + 1, by go_num, by omega, (by rw [← HN.out]; exact H.out.put x.toNat v)⟩
      case measure => simp [intOf]; omega
    · have HF := Lib.hid (show Below G w1 wr ∧ Bk wr G 44 (wz []) by have := H.out; rw [show t = 256 by omega, inT_top] at this; exact this)
      have bt : ¬ (t : Int) < 256 := by omega
      clear H
      go_wp2_with fail
      refine (expand_any G A c k HK.out hc _ HF.out.2 (HR2.out.below HF.out.1)).mono ?_
      rintro e w3 ⟨rfl, h3⟩
      have H3 := Lib.hid h3
      clear h3
      go_wp2
      go_ret2
      refine ⟨G, rfl, HwG.out, ci_of (keysL_len k HK.out) H3.out.2, ?_⟩
      exact HG1.out.trans ((HF.out.1.trans H3.out.1).mono (by rw [HGe.out]; exact Nat.le_refl _))
end Go.Proofs.Ytgfmdjagggnfbaa.S7
