/-
  Contract of the reference's tweak.
-/
import Derived.Test.YtbgbfofghhiolaaXtB
namespace Go.Proofs.Ytbgbfofghhiolaa.S8
open Go.RowKit
open Go.Proofs.Ytbgbfofghhiolaa.S7 hiding intOf
set_option linter.unusedVariables false
set_option linter.unusedSimpArgs false

/-- Where tweak stands: the result's cell, t. -/
def TwIn (w wr : World) (t : List UInt8) : Prop := Below w.heap.size w wr ∧ Br wr w.heap.size zs16 ∧ Br wr (w.heap.size + 1) t
theorem TwIn.put {w wr : World} {t : List UInt8} (h : TwIn w wr t) (i : Nat) (x : UInt8) : TwIn w (wr.setCell ⟨w.heap.size + 1, i, none⟩ (.int .u8 (x.toNat : Int))) (t.set i x) :=
  ⟨h.1.setCell (by show w.heap.size ≤ w.heap.size + 1; omega) _, h.2.1.far (by show w.heap.size ≠ w.heap.size + 1; omega) _, h.2.2.put i x⟩
theorem TwIn.row {w wr : World} {t : List UInt8} (h : TwIn w wr t) (m : List UInt8) : TwIn w (wr.setRow (w.heap.size + 1) (bvs m).toArray) m :=
  ⟨Below.setRow' h.1 (by omega) _, h.2.1.off (by omega) _, h.2.2.row m⟩
theorem TwIn.grow {w wr w' : World} {t : List UInt8} (h : TwIn w wr t) (hg : Grown wr w') : TwIn w w' t := ⟨h.1.trans (hg.mono h.1.size), h.2.1.grow hg, h.2.2.grow hg⟩

set_option maxHeartbeats 4000000 in
set_option maxRecDepth 20000 in
theorem refTweak_any (A : Option Addr) (c : Nat) (k : List UInt8) (n at0 : Nat) (w : World) (hk : k.length = 64) (hc : 64 ≤ c) (hR : Rd w w.heap.size A k) (hn : n < 9223372036854775808) (hat : at0 ≤ 10000) :
    Calls Try.prog 18 #[.slice A 64 c, .int .i64 (n : Int), .int .i64 (at0 : Int)] w fun e w' => e = .returned (.agg (bvs (tw (keysL (k.drop 32)) n at0)).toArray) ∧ Grown w w' := by
  have HK := Lib.hid hk
  have HR := Lib.hid hR
  have HN := Lib.hid hn
  obtain ⟨A2, hA2⟩ : ∃ A2, A2 = if c = 32 then A else A.map (·.add 32) := ⟨_, rfl⟩
  obtain ⟨c2, hc2⟩ : ∃ c2, c2 = c - 32 := ⟨_, rfl⟩
  have hsl : ∀ V : World, (Instr.slice 22 (.slice A 64 c) (some (.int .i64 32)) none none).run Try.prog V = .ok (.slice A2 32 c2) V := fun V => by rw [hA2, hc2]; exact cut_k V A 64 c 32 (by omega)
  have HR2 := Lib.hid (show Rd w w.heap.size A2 (k.drop 32) by rw [hA2]; exact Rd.cut hR (by rw [hk]; exact hc))
  have HK2 := Lib.hid (show (k.drop 32).length = 32 by rw [List.length_drop, hk])
  obtain ⟨kd, hkd⟩ : ∃ kd, kd = k.drop 32 := ⟨_, rfl⟩
  rw [← hkd] at HR2 HK2 ⊢
  have wn : IntKind.u64.wrap (n : Int) = (n : Int) := by rw [IntKind.wrap_u64]; omega
  clear hk hR hn hA2 hc2 hkd HR HK
  go_enter Try.func18, Try.ntmps18
  go_wp2
  have H0 := Lib.hid (show TwIn w ((w.alloc (.cells (bvs zs16).toArray 37)).alloc (.cells (bvs zs16).toArray 37)) (pt (numF n) zs16 0) from by
    rw [pt_zero _ _ rfl]
    refine ⟨Grown.trans (alloc_below w _) (alloc_below _ _), (Br.new w zs16).alloc _, ?_⟩
    have := Br.new (w.alloc (.cells (bvs zs16).toArray 37)) zs16
    simpa using this)
  rw [show (bvs zs16).toArray = #[Value.int .u8 0, Value.int .u8 0, Value.int .u8 0, Value.int .u8 0, Value.int .u8 0, Value.int .u8 0, Value.int .u8 0, Value.int .u8 0, Value.int .u8 0, Value.int .u8 0, Value.int .u8 0, Value.int .u8 0, Value.int .u8 0, Value.int .u8 0, Value.int .u8 0, Value.int .u8 0] from rfl] at H0
  generalize (w.alloc _).alloc _ = w2 at H0 ⊢
  go_loopw [8, 9] (fun v8 v9 wr => ∃ i m : Nat, v9 = .int .i64 (i : Int) ∧ v8 = .int .u64 (m : Int) ∧ i ≤ 8 ∧ m < 9223372036854775808 ∧ Hid (m = n / 256 ^ i) ∧ Hid (TwIn w wr (pt (numF n) zs16 i))) (fun _ v9 _ => 8 - (intOf v9).toNat)
  case atStart => exact ⟨0, n, rfl, rfl, by omega, HN.out, (by show n = n / 256 ^ 0; simp), H0.out⟩
  case round =>
    clear H0
    obtain ⟨i, m, rfl, rfl, hi, hm, Hm, H⟩ := hrel
    by_cases hil : i < 8
    · obtain ⟨q, hq⟩ : ∃ q, q = m % 256 := ⟨_, rfl⟩
      obtain ⟨m2, hm2⟩ : ∃ m2, m2 = m / 256 := ⟨_, rfl⟩
      obtain ⟨x, hx⟩ : ∃ x, x = numF n i := ⟨_, rfl⟩
      have hxq : x.toNat = q := by rw [hx, hq, Hm.out]; unfold numF; rw [UInt8.toNat_ofNat']; omega
      have e1 : (m : Int) % 256 = (q : Int) := by omega
      have e2 : (m : Int).tmod 256 = (q : Int) := by rw [hq]; rfl
      have e3 : (m : Int) / 256 = (m2 : Int) := by omega
      have e4 : (m : Int).tdiv 256 = (m2 : Int) := by rw [hm2]; rfl
      have wq : IntKind.u8.wrap (q : Int) = (x.toNat : Int) := by rw [IntKind.wrap_u8, hxq]; omega
      have wq2 : (q : Int) % 256 = (x.toNat : Int) := by rw [hxq]; omega
      have bi : (i : Int) < 8 := by omega
      have bi2 : (i : Int) < 16 := by omega
      have yc := H.out.2.2.cell i (by rw [pt_len]; omega)
      have yf := H.out.2.2.free i
      have HX := Lib.hid hx
      have HM2 := Lib.hid (show m2 = n / 256 ^ (i + 1) by rw [hm2, Hm.out, Nat.div_div_eq_div_mul, Nat.pow_succ])
      have hml : m2 < 9223372036854775808 := by omega
      clear hq hm2 hx hxq
      go_wp2
      go_roundw
      case rel => exact ⟨i + 1, m2, by go_num, rfl, by omega, hml, HM2.out, (by rw [← pt_set, ← HX.out]; exact H.out.put i x)⟩
      case measure => simp [intOf]; omega
    · have H1 := Lib.hid (show TwIn w wr (numL n) by have := H.out; rw [show i = 8 by omega, num_eight n HN.out] at this; exact this)
      have bi : ¬ (i : Int) < 8 := by omega
      clear H Hm
      go_wp2_with fail
      try simp only [Act.put]
      refine restS_begin (fun _ => True) (by kernel_rfl) ?_
      have H2 := Lib.hid (show TwIn w wr.drew (numL n) from ⟨H1.out.1.drew, H1.out.2.1, H1.out.2.2⟩)
      clear H1
      generalize wr.drew = w4 at H2 ⊢
      refine restS_take (i := 0) trivial rfl (by kernel_rfl) (by kernel_rfl) (by kernel_rfl) (by rfl) (fun w' hg => by go_simp; try with_reducible rfl) ?_
      try simp only [Act.put, List.setIfInBounds_toArray, List.set_cons_zero, List.set_cons_succ]
      refine restS_take (i := 1) trivial rfl (by kernel_rfl) (by kernel_rfl) (by kernel_rfl) (by rfl) (fun w' hg => by go_simp; try with_reducible rfl) ?_
      try simp only [Act.put, List.setIfInBounds_toArray, List.set_cons_zero, List.set_cons_succ]
      refine restS_two (i := 2) (j := 3) rfl rfl (by kernel_rfl) (by rfl) (by rfl) (fun K hK => ?_) (fun K hK => ?_)
      case' refine_1 =>
        go_simp
        refine (keys_any A2 c2 kd _ ((HR2.out.below H2.out.1).more H2.out.1.size) HK2.out).mono ?_
        rintro e v5 ⟨A6, c6, rfl, ho6, hg6⟩
        rw [keysL_len kd HK2.out]
        have HR6 := Lib.hid ho6.rd
        have T5 := Lib.hid (H2.out.grow hg6)
        refine hK.out _ _ trivial ?_
        clear hK K ho6 hg6
        try simp only [Act.put, List.setIfInBounds_toArray, List.set_cons_zero, List.set_cons_succ]
        clear H2
        refine restS_lone (i := 3) rfl (by kernel_rfl) (by rfl) (fun K hK => ?_)
        refine wp_load_br (.tmp 7) rfl rfl T5.out.2.2 (numL_len n) (hK.out _ _ trivial ?_)
        clear hK K
        try simp only [Act.put, List.setIfInBounds_toArray, List.set_cons_zero, List.set_cons_succ]
      case' refine_2 =>
        refine wp_load_br (.tmp 7) rfl rfl H2.out.2.2 (numL_len n) (hK.out _ _ trivial ?_)
        clear hK K
        try simp only [Act.put, List.setIfInBounds_toArray, List.set_cons_zero, List.set_cons_succ]
        refine restS_lone (i := 2) rfl (by kernel_rfl) (by rfl) (fun K hK => ?_)
        go_simp
        refine (keys_any A2 c2 kd _ ((HR2.out.below H2.out.1).more H2.out.1.size) HK2.out).mono ?_
        rintro e v5 ⟨A6, c6, rfl, ho6, hg6⟩
        rw [keysL_len kd HK2.out]
        have HR6 := Lib.hid ho6.rd
        have T5 := Lib.hid (H2.out.grow hg6)
        refine hK.out _ _ trivial ?_
        clear hK K ho6 hg6
        try simp only [Act.put, List.setIfInBounds_toArray, List.set_cons_zero, List.set_cons_succ]
        clear H2
      all_goals
        refine restS_lone (i := 4) rfl (by kernel_rfl) (by rfl) (fun K hK => ?_)
        go_simp
        refine (refEnc_any A6 c6 (keysL kd) (numL n) _ HR6.out (keysL_len kd HK2.out) (numL_len n)).mono ?_
        rintro e v8 ⟨rfl, hg8⟩
        have T8 := Lib.hid (T5.out.grow hg8)
        refine hK.out _ _ trivial ?_
        clear hK K hg8 T5 HR6
        try simp only [Act.put, List.setIfInBounds_toArray, List.set_cons_zero, List.set_cons_succ]
        refine restS_lone (i := 5) rfl (by kernel_rfl) (by rfl) (fun K hK => ?_)
        refine wp_store_br (.tmp 7) (.tmp 30) rfl rfl rfl T8.out.2.2 (numL_len n) (encL_len _ _) ?_
        have T9 := Lib.hid (show TwIn w (v8.setRow (w.heap.size + 1) (bvs (encL (keysL kd) (numL n))).toArray) (tw (keysL kd) n 0) from T8.out.row _)
        clear T8
        generalize v8.setRow _ _ = v9 at T9 ⊢
        refine hK.out _ _ trivial ?_
        clear hK K
        try simp only [Act.put, List.setIfInBounds_toArray, List.set_cons_zero, List.set_cons_succ]
        refine restS_done (by kernel_rfl) ?_
        obtain ⟨WD, hWD⟩ : ∃ WD, WD = keysL kd := ⟨_, rfl⟩
        rw [← hWD] at T9
        have HWD := Lib.hid hWD
        clear hWD
        go_wp2
        go_loopw [2] (fun v2 wr => ∃ a j : Nat, v2 = .int .i64 (a : Int) ∧ a ≤ 10000 ∧ Hid (j + a = at0) ∧ Hid (TwIn w wr (tw WD n j))) (fun v2 _ => (intOf v2).toNat)
        case atStart => exact ⟨at0, 0, rfl, hat, (by show 0 + at0 = at0; omega), T9.out⟩
        case round =>
          clear T9
          obtain ⟨a, j, rfl, ha, Hj, H⟩ := hrel
          by_cases ha0 : 0 < a
          · have b0 : (0 : Int) < (a : Int) := by omega
            obtain ⟨a1, ha1⟩ : ∃ a1, a = a1 + 1 := ⟨a - 1, by omega⟩
            have es : (a : Int) - 1 = (a1 : Int) := by omega
            have ws : IntKind.i64.wrap (a1 : Int) = (a1 : Int) := wr64 a1 (by omega)
            have HA1 := Lib.hid ha1
            have hal : a1 ≤ 10000 := by omega
            clear ha1
            obtain ⟨U, hU⟩ : ∃ U, U = tw WD n j := ⟨_, rfl⟩
            rw [← hU] at H
            have HUl := Lib.hid (show U.length = 16 by rw [hU]; exact tw_len _ _ _)
            have HUe := Lib.hid (show tw WD n (j + 1) = dblT U by rw [hU]; rfl)
            clear hU
            go_wp2
            have H1 := Lib.hid (show TwIn w wr (pt (dbF U) U 0) by rw [pt_zero _ _ HUl.out]; exact H.out)
            clear H
            go_loopw [10, 11] (fun v10 v11 wr => ∃ i cc : Nat, v11 = .int .i64 (i : Int) ∧ v10 = .int .i64 (cc : Int) ∧ i ≤ 16 ∧ cc ≤ 1 ∧ Hid (cc = cr U i) ∧ Hid (TwIn w wr (pt (dbF U) U i))) (fun _ v11 _ => 16 - (intOf v11).toNat)
            case atStart => exact ⟨0, 0, rfl, rfl, by omega, by omega, rfl, H1.out⟩
            case round =>
              clear H1
              obtain ⟨i, cc, rfl, rfl, hi, hcc, Hcc, H⟩ := hrel
              by_cases hil : i < 16
              · obtain ⟨p, hp⟩ : ∃ p, p = gt U i := ⟨_, rfl⟩
                have hpl := u8_lt p
                obtain ⟨d, hd⟩ : ∃ d, d = 2 * p.toNat := ⟨_, rfl⟩
                obtain ⟨x, hx⟩ : ∃ x, x = d + cc := ⟨_, rfl⟩
                obtain ⟨q, hq⟩ : ∃ q, q = x % 256 := ⟨_, rfl⟩
                obtain ⟨c3, hc3⟩ : ∃ c3, c3 = x / 256 := ⟨_, rfl⟩
                obtain ⟨z, hz⟩ : ∃ z, z = dbF U i := ⟨_, rfl⟩
                have hzq : z.toNat = q := by rw [hz, hq, hx, hd, hp, Hcc.out]; unfold dbF; rw [UInt8.toNat_ofNat']; omega
                have wp : IntKind.i64.wrap (p.toNat : Int) = (p.toNat : Int) := wr64 _ (by omega)
                have e1 : 2 * (p.toNat : Int) = (d : Int) := by omega
                have w1 : IntKind.i64.wrap (d : Int) = (d : Int) := wr64 d (by omega)
                have e2 : (d : Int) + (cc : Int) = (x : Int) := by omega
                have w2 : IntKind.i64.wrap (x : Int) = (x : Int) := wr64 x (by omega)
                have e3 : (x : Int) % 256 = (q : Int) := by omega
                have e4 : (x : Int).tmod 256 = (q : Int) := by rw [hq]; rfl
                have e5 : (x : Int) / 256 = (c3 : Int) := by omega
                have e6 : (x : Int).tdiv 256 = (c3 : Int) := by rw [hc3]; rfl
                have w3 : IntKind.u8.wrap (q : Int) = (z.toNat : Int) := by rw [IntKind.wrap_u8, hzq]; omega
                have w4 : (q : Int) % 256 = (z.toNat : Int) := by rw [hzq]; omega
                have HC3 := Lib.hid (show c3 = cr U (i + 1) by rw [hc3, hx, hd, hp, Hcc.out]; rfl)
                have hc3l : c3 ≤ 1 := by omega
                have HZ := Lib.hid hz
                have yc := H.out.2.2.cell i (by rw [pt_len]; omega)
                rw [gt_pt _ _ _ _ hil, if_neg (by omega), ← hp] at yc
                have yf := H.out.2.2.free i
                have bi : (i : Int) < 16 := by omega
                clear hp hd hx hq hc3 hz hzq
                go_wp2
                go_roundw
                case rel => exact ⟨i + 1, c3, by go_num, rfl, by omega, hc3l, HC3.out, (by rw [← pt_set, ← HZ.out]; exact H.out.put i z)⟩
                case measure => simp [intOf]; omega
              · have H2 := Lib.hid (show TwIn w wr (mk (dbF U)) by have := H.out; rw [show i = 16 by omega, pt_all] at this; exact this)
                have HC2 := Lib.hid (show cc = cr U 16 by rw [Hcc.out, show i = 16 by omega])
                have bi : ¬ (i : Int) < 16 := by omega
                clear H Hcc
                by_cases hc1 : cc = 1
                · subst hc1
                  obtain ⟨y, hy⟩ : ∃ y, y = dbF U 0 := ⟨_, rfl⟩
                  obtain ⟨z, hz⟩ : ∃ z, z = y ^^^ 135 := ⟨_, rfl⟩
                  have hx : bits .xor .u8 (y.toNat : Int) 135 = (z.toNat : Int) := by rw [hz]; exact x_u8 y 135
                  have yc := H2.out.2.2.cell 0 (by rw [mk_len]; omega)
                  rw [gt_mk _ _ (by omega), ← hy] at yc
                  have yf := H2.out.2.2.free 0
                  have H3 := Lib.hid (show TwIn w (wr.setCell ⟨w.heap.size + 1, 0, none⟩ (.int .u8 (z.toNat : Int))) (tw WD n (j + 1)) by
                    rw [HUe.out]
                    unfold dblT
                    rw [if_pos HC2.out.symm, ← hy, ← hz]
                    exact H2.out.put 0 z)
                  clear hy hz H2
                  go_wp2
                  go_roundw
                  case rel => exact ⟨a1, j + 1, rfl, hal, (by show j + 1 + a1 = at0; have := Hj.out; have := HA1.out; omega), H3.out⟩
                  case measure => have := HA1.out; simp [intOf]; omega
                · have hc0 : cc = 0 := by omega
                  have b1 : ((cc : Int) == 1) = false := by simp; omega
                  have H3 := Lib.hid (show TwIn w wr (tw WD n (j + 1)) by
                    rw [HUe.out]
                    unfold dblT
                    rw [if_neg (by rw [← HC2.out]; omega)]
                    exact H2.out)
                  clear hc0 H2
                  go_wp2
                  go_roundw
                  case rel => exact ⟨a1, j + 1, rfl, hal, (by show j + 1 + a1 = at0; have := Hj.out; have := HA1.out; omega), H3.out⟩
                  case measure => have := HA1.out; simp [intOf]; omega
          · have b0 : ¬ (0 : Int) < (a : Int) := by omega
            have H2 := Lib.hid (show TwIn w wr (tw WD n at0) by have := H.out; rw [show j = at0 by have := Hj.out; omega] at this; exact this)
            clear H Hj
            have HRl := Lib.hid (tw_len WD n at0)
            obtain ⟨R, hR⟩ : ∃ R, R = tw WD n at0 := ⟨_, rfl⟩
            rw [← hR] at H2 HRl
            have HRe := Lib.hid hR
            clear hR
            go_wp2_with (first
              | (refine wpList_load_br rfl (.tmp 7) rfl rfl H2.out.2.2 HRl.out ?_)
              | (refine wpList_store_br rfl (.tmp 6) (.tmp 59) rfl rfl rfl H2.out.2.1 rfl HRl.out ?_))
            exact ret_row rfl _ rfl (H2.out.2.1.row R) u16B rfl (sz16 HRl.out) ⟨by rw [HRe.out, HWD.out], Below.setRow' H2.out.1 (Nat.le_refl _) _⟩
end Go.Proofs.Ytbgbfofghhiolaa.S8
