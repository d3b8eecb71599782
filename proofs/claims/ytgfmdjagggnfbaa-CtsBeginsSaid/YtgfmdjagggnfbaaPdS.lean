/-
  Contract of the program's substitution: the table of S.
-/
import Derived.Test.YtgfmdjagggnfbaaPdC
import Derived.Test.YtgfmdjagggnfbaaPdT
namespace Go.Proofs.Ytgfmdjagggnfbaa.S7
open Go.RowKit
set_option linter.unusedVariables false
set_option linter.unusedSimpArgs false

theorem i256 : (Try.prog.info? 39).map (·.size) = some 256 := by kernel_rfl
theorem i255 : (Try.prog.info? 57).map (·.size) = some 255 := by kernel_rfl
theorem u256 : Try.prog.underlying 39 = some (.array 256 5) := by kernel_rfl
theorem u255 : Try.prog.underlying 57 = some (.array 255 5) := by kernel_rfl
theorem zero_256 (W : World) : (zeroValue 39).run Try.prog W = .ok (.agg (bvs (List.replicate 256 0)).toArray) W := by kernel_rfl
theorem zero_255 (W : World) : (zeroValue 57).run Try.prog W = .ok (.agg (bvs (List.replicate 255 0)).toArray) W := by kernel_rfl
/-- Where substitution stands: the result's cell, the powers. -/
def SuIn (w wr : World) (L : List UInt8) : Prop := Below w.heap.size w wr ∧ Bk wr w.heap.size 39 (List.replicate 256 0) ∧ Bk wr (w.heap.size + 1) 57 L

set_option maxHeartbeats 4000000 in
set_option maxRecDepth 100000 in
theorem subst_any (w : World) : Calls Try.prog 12 #[] w fun e w' => e = .returned (.agg (bvs SB).toArray) ∧ Grown w w' := by
  obtain ⟨Z, hZ⟩ : ∃ Z, Z = (bvs (List.replicate 256 0)).toArray := ⟨_, rfl⟩
  obtain ⟨Y, hY⟩ : ∃ Y, Y = (bvs (List.replicate 255 0)).toArray := ⟨_, rfl⟩
  have hz : ∀ W : World, (zeroValue 39).run Try.prog W = .ok (.agg Z) W := fun W => by rw [hZ]; exact zero_256 W
  have hy : ∀ W : World, (zeroValue 57).run Try.prog W = .ok (.agg Y) W := fun W => by rw [hY]; exact zero_255 W
  have HZ := Lib.hid hZ
  have HY := Lib.hid hY
  clear hZ hY
  go_enter Try.func12, Try.ntmps12
  go_wp2
  have H0 := Lib.hid (show SuIn w ((w.alloc (.cells Z 39)).alloc (.cells Y 57)) (pwT 0) by
    rw [HZ.out, HY.out, pwT_zero]
    exact ⟨two_grown w _ _, first_new w _ _, two_new w _ _⟩)
  generalize (w.alloc _).alloc _ = w3 at H0 ⊢
  go_loopw [2, 7] (fun v2 v7 wr => ∃ t : Nat, v7 = .int .i64 (t : Int) ∧ v2 = .int .u8 ((pwr t).toNat : Int) ∧ t ≤ 255 ∧ Hid (SuIn w wr (pwT t))) (fun _ v7 _ => 255 - (intOf v7).toNat)
  case atStart => exact ⟨0, rfl, rfl, by omega, H0.out⟩
  case round =>
    clear H0
    obtain ⟨t, rfl, rfl, ht, H⟩ := hrel
    obtain ⟨x, hx⟩ : ∃ x, x = pwr t := ⟨_, rfl⟩
    rw [← hx]
    by_cases hlt : t < 255
    · have yc := H.out.2.2.cell t (by unfold pwT; rw [pk_len]; omega)
      have yf := H.out.2.2.free t
      obtain ⟨y, hy2⟩ : ∃ y, y = dbl x := ⟨_, rfl⟩
      obtain ⟨z, hz2⟩ : ∃ z, z = x ^^^ y := ⟨_, rfl⟩
      have q : bits .xor .u8 (x.toNat : Int) (y.toNat : Int) = (z.toNat : Int) := by rw [hz2]; exact xor_u8 _ _
      have HZ2 := Lib.hid (show z = pwr (t + 1) by rw [pwr_next ⟨t, hlt⟩, hz2, hy2, hx])
      have HC := Lib.hid (fun W => show Calls Try.prog 23 #[.int .u8 (x.toNat : Int)] W (fun e w' => e = .returned (.int .u8 (y.toNat : Int)) ∧ w' = W) by rw [hy2]; exact double_any x W)
      have HX := Lib.hid hx
      have bt : (t : Int) < 255 := by omega
      clear hx hy2 hz2
      go_wp2_with fail
      refine (HC.out _).mono ?_
      rintro e w' ⟨rfl, hw'⟩
      subst w'
      go_wp2
      go_roundw
      case rel => exact ⟨t + 1, by go_num, by rw [← HZ2.out], by omega, H.out.1.setCell (by show w.heap.size ≤ w.heap.size + 1; omega) _, H.out.2.1.far (by show w.heap.size ≠ w.heap.size + 1; omega) _, (by rw [← pwT_next t hlt, ← HX.out]; exact H.out.2.2.put t x)⟩
      case measure => simp [intOf]; omega
    · have H1 := Lib.hid (show SuIn w wr (pwT 255) by have := H.out; rw [show t = 255 by omega] at this; exact this)
      have bt : ¬ (t : Int) < 255 := by omega
      clear H hx
      obtain ⟨c0, hc0⟩ : ∃ c, c = scB 0 := ⟨_, rfl⟩
      have HC0 := Lib.hid hc0
      have HS := Lib.hid (fun W => show Calls Try.prog 24 #[.int .u8 0] W (fun e w' => e = .returned (.int .u8 (c0.toNat : Int)) ∧ w' = W) by rw [hc0]; exact scatter_any 0 W)
      clear hc0
      go_wp2_with fail
      refine (HS.out _).mono ?_
      rintro e w' ⟨rfl, hw'⟩
      subst w'
      obtain ⟨g, hg⟩ : ∃ g, g = wr.heap.size := ⟨_, rfl⟩
      have hgs : w.heap.size + 1 < g := by have := H1.out.2.2.lt; omega
      have H2 := Lib.hid (show Below w.heap.size w (wr.alloc (.cells Z 39)) ∧ Bk (wr.alloc (.cells Z 39)) w.heap.size 39 (List.replicate 256 0) ∧ Bk (wr.alloc (.cells Z 39)) (w.heap.size + 1) 57 (pwT 255) ∧ Bk (wr.alloc (.cells Z 39)) g 39 (List.replicate 256 0) from
        ⟨H1.out.1.alloc (by have := H1.out.2.1.lt; omega) _, H1.out.2.1.alloc _, H1.out.2.2.alloc _, by rw [HZ.out, hg]; exact Bk.new wr _ _⟩)
      rw [← hg]
      clear hg H1
      generalize wr.alloc _ = w4 at H2 ⊢
      have yc : w4.cell? ⟨g, 0, none⟩ = some (.int .u8 ((gt (List.replicate 256 (0 : UInt8)) 0).toNat : Int)) := H2.out.2.2.2.cell 0 (by simp)
      have yf := H2.out.2.2.2.free 0
      have H3 := Lib.hid (show Below w.heap.size w (w4.setCell ⟨g, 0, none⟩ (.int .u8 (c0.toNat : Int))) ∧ Bk (w4.setCell ⟨g, 0, none⟩ (.int .u8 (c0.toNat : Int))) w.heap.size 39 (List.replicate 256 0) ∧ Bk (w4.setCell ⟨g, 0, none⟩ (.int .u8 (c0.toNat : Int))) (w.heap.size + 1) 57 (pwT 255) ∧ Bk (w4.setCell ⟨g, 0, none⟩ (.int .u8 (c0.toNat : Int))) g 39 (sbT 0) from
        ⟨H2.out.1.setCell (by show w.heap.size ≤ g; omega) _, H2.out.2.1.far (by show w.heap.size ≠ g; omega) _, H2.out.2.2.1.far (by show w.heap.size + 1 ≠ g; omega) _, by rw [← sbT_zero, ← HC0.out]; exact H2.out.2.2.2.put 0 c0⟩)
      have HP := Lib.hid (show (Try.prog.info? 57).map (·.size) = some (bvs (pwT 255)).toArray.size by rw [show (bvs (pwT 255)).toArray.size = 255 by simp [bvs, pwT, pk_len]]; exact i255)
      have HPl := Lib.hid (show (pwT 255).length = 255 by unfold pwT; rw [pk_len])
      obtain ⟨P, hP⟩ : ∃ P, P = pwT 255 := ⟨_, rfl⟩
      rw [← hP] at H3 HP HPl
      have HPe := Lib.hid hP
      clear hP
      go_wp2_with (first
        | (refine wpList_load_row rfl 57 (.tmp 1) rfl _ rfl H3.out.2.2.1 u255 rfl HP.out ?_))
      clear H2 yc yf
      generalize w4.setCell _ _ = w5 at H3 ⊢
      go_loopw [21] (fun v21 wr => ∃ t : Nat, v21 = .int .i64 (t : Int) ∧ t ≤ 255 ∧ Hid (Below w.heap.size w wr ∧ Bk wr w.heap.size 39 (List.replicate 256 0) ∧ Bk wr (w.heap.size + 1) 57 P ∧ Bk wr g 39 (sbT t))) (fun v21 _ => 255 - (intOf v21).toNat)
      case atStart => exact ⟨0, rfl, by omega, H3.out⟩
      case round =>
        clear H3
        obtain ⟨k, rfl, hk, H⟩ := hrel
        by_cases hkl : k < 255
        · obtain ⟨x, hx⟩ : ∃ x, x = gt P k := ⟨_, rfl⟩
          have hxe : x = pwr k := by rw [hx, HPe.out]; exact gt_pwT k hkl
          have hix : ∀ W : World, (Instr.index 57 (.agg (bvs P).toArray) (.int .i64 (k : Int))).run Try.prog W = .ok (.int .u8 (x.toNat : Int)) W := fun W => by rw [hx]; exact idxB u255 HPl.out k hkl W
          obtain ⟨u, hu⟩ : ∃ u, u = 255 - k := ⟨_, rfl⟩
          obtain ⟨q, hq⟩ : ∃ q, q = u % 255 := ⟨_, rfl⟩
          have hq255 : q < 255 := by omega
          have e1 : 255 - (k : Int) = (u : Int) := by omega
          have e2 : IntKind.i64.wrap (u : Int) = (u : Int) := by rw [IntKind.wrap_i64]; omega
          have e3 : (u : Int).tmod 255 = (q : Int) := by rw [hq]; rfl
          have e4 : (u : Int) % 255 = (q : Int) := by rw [hq]; rfl
          have bq : (q : Int) < 255 := by omega
          obtain ⟨y, hy2⟩ : ∃ y, y = gt P q := ⟨_, rfl⟩
          have hye : y = inB k := by rw [hy2, HPe.out, gt_pwT q hq255, hq, hu]; rfl
          have hcy : wr.cell? ⟨w.heap.size + 1, q, none⟩ = some (.int .u8 (y.toNat : Int)) := by rw [hy2]; exact H.out.2.2.1.cell q (by rw [HPl.out]; exact hq255)
          obtain ⟨z, hz2⟩ : ∃ z, z = scB y := ⟨_, rfl⟩
          have HS2 := Lib.hid (fun W => show Calls Try.prog 24 #[.int .u8 (y.toNat : Int)] W (fun e w' => e = .returned (.int .u8 (z.toNat : Int)) ∧ w' = W) by rw [hz2]; exact scatter_any y W)
          have hxl := u8_lt x
          have yc := H.out.2.2.2.cell x.toNat (by unfold sbT; rw [pk_len]; exact hxl)
          have yf := H.out.2.2.2.free x.toNat
          have HN := Lib.hid (show (sbT k).set x.toNat z = sbT (k + 1) by rw [hz2, hye, hxe]; exact sbT_next k hkl)
          have bk : (k : Int) < 255 := by omega
          clear hx hxe hu hq hy2 hye hz2
          go_wp2_with fail
          refine (HS2.out _).mono ?_
          rintro e w' ⟨rfl, hw'⟩
          subst w'
          go_wp2
          go_roundw
          case rel => exact ⟨k + 1, by go_num, by omega, H.out.1.setCell (by show w.heap.size ≤ g; omega) _, H.out.2.1.far (by show w.heap.size ≠ g; omega) _, H.out.2.2.1.far (by show w.heap.size + 1 ≠ g; omega) _, (by rw [← HN.out]; exact H.out.2.2.2.put x.toNat z)⟩
          case measure => simp [intOf]; omega
        · have H4 := Lib.hid (show Below w.heap.size w wr ∧ Bk wr w.heap.size 39 (List.replicate 256 0) ∧ Bk wr g 39 SB by
            have := H.out
            rw [show k = 255 by omega, sbT_top] at this
            exact ⟨this.1, this.2.1, this.2.2.2⟩)
          have bk : ¬ (k : Int) < 255 := by omega
          have HB := Lib.hid (show (Try.prog.info? 39).map (·.size) = some (bvs SB).toArray.size by rw [show (bvs SB).toArray.size = 256 from rfl]; exact i256)
          have HBo := Lib.hid (show (bvs SB).toArray.all (·.oneCell') = true from all_oneCell_toArray (bvs_one _))
          have HBs := Lib.hid (show (bvs (List.replicate 256 0)).toArray.size = (bvs SB).toArray.size from rfl)
          clear H
          obtain ⟨T, hT⟩ : ∃ T, T = SB := ⟨_, rfl⟩
          rw [← hT] at H4 HB HBo HBs
          have HTe := Lib.hid hT
          clear hT
          go_wp2_with (first
            | (refine wpList_load_row rfl 39 (.tmp 4) rfl _ rfl H4.out.2.2 u256 rfl HB.out ?_)
            | (refine wpList_store_row rfl 39 (.tmp 0) (.tmp 34) rfl rfl rfl H4.out.2.1 HB.out HBs.out HBo.out ?_))
          exact ret_row rfl _ rfl (setRow_at H4.out.2.1) u256 rfl HB.out ⟨by rw [HTe.out], Below.setRow' H4.out.1 (Nat.le_refl _) _⟩
end Go.Proofs.Ytgfmdjagggnfbaa.S7
