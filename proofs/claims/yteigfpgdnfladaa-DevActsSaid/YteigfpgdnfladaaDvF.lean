/-
  Contracts of the reference's device: Flush, Crash.
-/
import Derived.Test.YteigfpgdnfladaaDvR
import Derived.Test.YteigfpgdnfladaaGrs
namespace Go.Proofs.Yteigfpgdnfladaa.S13
open Cf
open Go.RowKit
set_option linter.unusedVariables false
set_option linter.unusedSimpArgs false

theorem lay_snoc (kept : List (List UInt8)) (l : List (Nat × List UInt8)) (k : Nat) (hk : k < l.length) : lay kept (l.take (k + 1)) = (lay kept (l.take k)).set l[k].1 l[k].2 := by
  rw [List.take_add_one, List.getElem?_eq_getElem hk]
  unfold lay
  rw [List.foldl_append]
  rfl
/-- With these sectors kept. -/
def withK (st : Dv) (k : List (List UInt8)) : Dv := { st with kept := k }
section
variable {base R : Nat} {Ak Aa Aw : Option Addr} {st : Dv} {w : World} {i : Nat}
theorem Rv.nilA {s : Rs} (h : Rv w base R Ak Aa Aw s) : Rv (w.setCell ⟨R, 1, none⟩ (.slice none 0 0)) base R Ak none Aw { s with at_ := [] } := by
  obtain ⟨ck, ca, cw, hR, h1, h2, h3⟩ := h.ex
  exact { h with na := (fun x hx => by cases hx), ka := (fun x y hx hy => by cases hy), aw := (fun x y hx => by cases hx), ex := ⟨ck, 0, cw, by rw [heap_setCell_same w R 1 _ _ _ hR]; rfl, Rv.offR h.nk h1 1 _, Ow.nil _ _ _, Rv.offR h.nw h3 1 _⟩ }
theorem Rv.nilW {s : Rs} (h : Rv w base R Ak Aa Aw s) : Rv (w.setCell ⟨R, 2, none⟩ (.slice none 0 0)) base R Ak Aa none { s with what := [] } := by
  obtain ⟨ck, ca, cw, hR, h1, h2, h3⟩ := h.ex
  exact { h with nw := (fun x hx => by cases hx), kw := (fun x y hx hy => by cases hy), aw := (fun x y hx hy => by cases hy), ex := ⟨ck, ca, 0, by rw [heap_setCell_same w R 2 _ _ _ hR]; rfl, Rv.offR h.nk h1 2 _, Rv.offR h.na h2 2 _, Ow.nil _ _ _⟩ }
set_option maxHeartbeats 4000000 in
theorem refFlush_any (h : Rv w base R Ak Aa Aw (raw st)) (hk : Ok st i) (hi : i ≤ 1000) (hl : st.kept.length ≤ 70000) :
    Calls Try.prog 16 #[.pointer (some ⟨R, 0, none⟩)] w fun e w' => e = .returned (.int .i64 (dvFlush st).1) ∧ Od base R w (RV R Ak Aa Aw) (dvFlush st).2 w' := by
  have H := Lib.hid h
  have HK := Lib.hid hk
  clear h hk
  go_enter Try.func16, Try.ntmps16
  go_wp2_with fail
  refine (refOn_any H.out HK.out).mono ?_
  rintro e w1 ⟨rfl, hz, hc⟩
  have HZ := Lib.hid hz
  have HC := Lib.hid hc
  clear hz hc
  cases hon : isOn st with
  | false =>
    have HE := Lib.hid (show dvFlush st = (10, st) by unfold dvFlush; rw [hon]; rfl)
    have HT := Lib.hid (tick_off hon)
    clear hon
    go_wp2
    go_ret
    rw [HE.out]
    exact ⟨rfl, od_same (HT.out ▸ HZ.out) HC.out⟩
  | true =>
    have HE := Lib.hid (show dvFlush st = (0, { withK (tick st) (lay (tick st).kept (tick st).pend) with pend := [] }) by unfold dvFlush withK; rw [hon, tick_kept, tick_pend]; rfl)
    have HKt := Lib.hid HK.out.tick
    clear hon
    obtain ⟨s, hs⟩ : ∃ s, s = tick st := ⟨_, rfl⟩
    have HLs := Lib.hid (show s.kept.length ≤ 70000 by rw [hs, tick_kept]; exact hl)
    rw [← hs] at HZ HKt HE
    clear hs HK
    obtain ⟨m, hm⟩ : ∃ m, m = s.pend.length := ⟨_, rfl⟩
    have HM := Lib.hid hm
    have hml : m ≤ 1000 := by have := HKt.out.few; omega
    clear hm
    have HZ0 := Lib.hid (show Rv w1 base R Ak Aa Aw (raw (withK s (lay s.kept (s.pend.take 0)))) from HZ.out)
    clear HZ
    go_wp2_with fail
    go_loopw [3] (fun v3 wr => ∃ (k : Nat), v3 = .int .i64 (k : Int) ∧ k ≤ m ∧ Hid (Rv wr base R Ak Aa Aw (raw (withK s (lay s.kept (s.pend.take k))))) ∧ Hid (Ch (RV R Ak Aa Aw) w wr)) (fun v3 _ => m - (intOf v3).toNat)
    case atStart => exact ⟨0, rfl, Nat.zero_le _, HZ0.out, HC.out⟩
    case round =>
      clear HZ0 HC
      obtain ⟨k, rfl, hkm, HZ, HC⟩ := hrel
      obtain ⟨ck, ca, cw, l1, l2, l3, q0, q1, q2, q3, q4⟩ := HZ.out.cells
      have hc1 : wr.cell? ⟨R, 1, none⟩ = some (.slice Aa m ca) := by rw [q1, HM.out]; simp [raw, withK]
      by_cases hlt : k < m
      · have bk : (k : Int) < (m : Int) := by omega
        have hkp : k < s.pend.length := by have := HM.out; omega
        clear q0 q1 q2 q3 q4 l1 l2 l3
        go_wp2_with fail
        try simp only [Act.put, List.setIfInBounds_toArray, List.set_cons_zero, List.set_cons_succ]
        clear hc1
        have GD := Lib.hid (show Grown wr wr.drew from (Below.refl _ wr).drew)
        have HZd := Lib.hid (HZ.out.grow GD.out)
        have HCd := Lib.hid HC.out.drew
        clear HZ HC
        obtain ⟨pa, hpa⟩ : ∃ p, p = s.pend[k].1 := ⟨_, rfl⟩
        obtain ⟨pw, hpw⟩ : ∃ p, p = s.pend[k].2 := ⟨_, rfl⟩
        have hpl : pa < s.kept.length := by rw [hpa]; exact (HKt.out.pend _ (List.getElem_mem hkp)).1
        generalize hwd : wr.drew = wd at HZd HCd ⊢
        obtain ⟨ga, rfl, hga, hca0⟩ := HZd.out.atAt k (by simp [raw, withK]; exact hkp)
        obtain ⟨gw, rfl, hgw, hcw0⟩ := HZd.out.whatAt k (by simp [raw, withK]; exact hkp)
        obtain ⟨gk, rfl, hgb, hgk, hgR, hck0, hfz⟩ := HZd.out.keptAt pa (by simp [raw, withK, lay_len]; exact hpl)
        obtain ⟨dk, da, dw, l1, l2, l3, q0, q1, q2, q3, q4⟩ := HZd.out.cells
        have SV := Lib.hid (show wd.cell? ⟨R, 0, none⟩ = some (.slice (some ⟨gk, 0, none⟩) s.kept.length dk) ∧ wd.cell? ⟨R, 1, none⟩ = some (.slice (some ⟨ga, 0, none⟩) m da) ∧ wd.cell? ⟨R, 2, none⟩ = some (.slice (some ⟨gw, 0, none⟩) m dw) ∧ wd.cell? ⟨ga, k, none⟩ = some (.int .i64 (pa : Int)) ∧ wd.cell? ⟨gw, k, none⟩ = some (.string ⟨pw.toArray⟩) from
          ⟨by rw [q0]; simp [raw, withK, lay_len], by rw [q1, HM.out]; simp [raw, withK], by rw [q2, HM.out]; simp [raw, withK], by rw [hca0, hpa]; simp [raw, iv, withK], by rw [hcw0, hpw]; simp [raw, sv, withK]⟩)
        have HNx := Lib.hid (show Rv (wd.setCell ⟨gk, pa, none⟩ (.string ⟨pw.toArray⟩)) base R (some ⟨gk, 0, none⟩) (some ⟨ga, 0, none⟩) (some ⟨gw, 0, none⟩) (raw (withK s (lay s.kept (s.pend.take (k + 1))))) by
          have := HZd.out.setKept pa (by simp [raw, withK, lay_len]; exact hpl) pw
          rw [lay_snoc _ _ _ hkp, ← hpa, ← hpw]
          exact this)
        have HCx := Lib.hid (show Ch (RV R (some ⟨gk, 0, none⟩) (some ⟨ga, 0, none⟩) (some ⟨gw, 0, none⟩)) w (wd.setCell ⟨gk, pa, none⟩ (.string ⟨pw.toArray⟩)) from Ch.setCell HCd.out (p := ⟨gk, pa, none⟩) (.inl (.inr (.inl ⟨_, rfl, rfl⟩))) _)
        have hne1 : gk ≠ R := hgR
        have hne2 : gk ≠ ga := HZd.out.ka _ _ rfl rfl
        have hne3 : gk ≠ gw := HZd.out.kw _ _ rfl rfl
        have SX := Lib.hid (show (wd.setCell ⟨gk, pa, none⟩ (.string ⟨pw.toArray⟩)).cell? ⟨R, 0, none⟩ = some (.slice (some ⟨gk, 0, none⟩) s.kept.length dk) ∧ (wd.setCell ⟨gk, pa, none⟩ (.string ⟨pw.toArray⟩)).cell? ⟨R, 1, none⟩ = some (.slice (some ⟨ga, 0, none⟩) m da) ∧ (wd.setCell ⟨gk, pa, none⟩ (.string ⟨pw.toArray⟩)).cell? ⟨R, 2, none⟩ = some (.slice (some ⟨gw, 0, none⟩) m dw) ∧ (wd.setCell ⟨gk, pa, none⟩ (.string ⟨pw.toArray⟩)).cell? ⟨ga, k, none⟩ = some (.int .i64 (pa : Int)) ∧ (wd.setCell ⟨gk, pa, none⟩ (.string ⟨pw.toArray⟩)).cell? ⟨gw, k, none⟩ = some (.string ⟨pw.toArray⟩) from
          ⟨(World.cell?_of_block (a := ⟨R, 0, none⟩) (heap_setCell_other wd ⟨gk, pa, none⟩ R _ (Ne.symm hne1))).trans SV.out.1, (World.cell?_of_block (a := ⟨R, 1, none⟩) (heap_setCell_other wd ⟨gk, pa, none⟩ R _ (Ne.symm hne1))).trans SV.out.2.1, (World.cell?_of_block (a := ⟨R, 2, none⟩) (heap_setCell_other wd ⟨gk, pa, none⟩ R _ (Ne.symm hne1))).trans SV.out.2.2.1, (World.cell?_of_block (a := ⟨ga, k, none⟩) (heap_setCell_other wd ⟨gk, pa, none⟩ ga _ (Ne.symm hne2))).trans SV.out.2.2.2.1, (World.cell?_of_block (a := ⟨gw, k, none⟩) (heap_setCell_other wd ⟨gk, pa, none⟩ gw _ (Ne.symm hne3))).trans SV.out.2.2.2.2⟩)
        clear hca0 hcw0 hpa hpw q0 q1 q2 q3 q4 l1 l2 l3 hne1 hne2 hne3
        have hpl2 : (pa : Int) < (s.kept.length : Int) := by omega
        have hbk : (k : Int) < (m : Int) := bk
        refine restS_begin (fun v : World => v.cell? ⟨R, 0, none⟩ = some (.slice (some ⟨gk, 0, none⟩) s.kept.length dk) ∧ v.cell? ⟨R, 1, none⟩ = some (.slice (some ⟨ga, 0, none⟩) m da) ∧ v.cell? ⟨R, 2, none⟩ = some (.slice (some ⟨gw, 0, none⟩) m dw) ∧ v.cell? ⟨ga, k, none⟩ = some (.int .i64 (pa : Int)) ∧ v.cell? ⟨gw, k, none⟩ = some (.string ⟨pw.toArray⟩)) (by kernel_rfl) ?_
        rw [hwd]
        clear hwd
        refine restS_take (i := 0) SV.out rfl (by kernel_rfl) (by kernel_rfl) (by kernel_rfl) (by rfl) (fun v hv => by obtain ⟨v1, v2, v3, v4, v5⟩ := hv; go_simp; try with_reducible rfl) ?_
        try simp only [Act.put, List.setIfInBounds_toArray, List.set_cons_zero, List.set_cons_succ]
        refine restS_take (i := 1) SV.out rfl (by kernel_rfl) (by kernel_rfl) (by kernel_rfl) (by rfl) (fun v hv => by obtain ⟨v1, v2, v3, v4, v5⟩ := hv; go_simp; try with_reducible rfl) ?_
        try simp only [Act.put, List.setIfInBounds_toArray, List.set_cons_zero, List.set_cons_succ]
        refine restS_take (i := 2) SV.out rfl (by kernel_rfl) (by kernel_rfl) (by kernel_rfl) (by rfl) (fun v hv => by obtain ⟨v1, v2, v3, v4, v5⟩ := hv; go_simp; try with_reducible rfl) ?_
        try simp only [Act.put, List.setIfInBounds_toArray, List.set_cons_zero, List.set_cons_succ]
        refine restS_take (i := 3) SV.out rfl (by kernel_rfl) (by kernel_rfl) (by kernel_rfl) (by rfl) (fun v hv => by obtain ⟨v1, v2, v3, v4, v5⟩ := hv; go_simp; try with_reducible rfl) ?_
        try simp only [Act.put, List.setIfInBounds_toArray, List.set_cons_zero, List.set_cons_succ]
        refine restS_take (i := 4) SV.out rfl (by kernel_rfl) (by kernel_rfl) (by kernel_rfl) (by rfl) (fun v hv => by obtain ⟨v1, v2, v3, v4, v5⟩ := hv; go_simp; try with_reducible rfl) ?_
        try simp only [Act.put, List.setIfInBounds_toArray, List.set_cons_zero, List.set_cons_succ]
        refine restS_take (i := 5) SV.out rfl (by kernel_rfl) (by kernel_rfl) (by kernel_rfl) (by rfl) (fun v hv => by obtain ⟨v1, v2, v3, v4, v5⟩ := hv; go_simp; try with_reducible rfl) ?_
        try simp only [Act.put, List.setIfInBounds_toArray, List.set_cons_zero, List.set_cons_succ]
        refine restS_take (i := 6) SV.out rfl (by kernel_rfl) (by kernel_rfl) (by kernel_rfl) (by rfl) (fun v hv => by obtain ⟨v1, v2, v3, v4, v5⟩ := hv; go_simp; try with_reducible rfl) ?_
        try simp only [Act.put, List.setIfInBounds_toArray, List.set_cons_zero, List.set_cons_succ]
        refine restS_take (i := 7) SV.out rfl (by kernel_rfl) (by kernel_rfl) (by kernel_rfl) (by rfl) (fun v hv => by obtain ⟨v1, v2, v3, v4, v5⟩ := hv; go_simp; try with_reducible rfl) ?_
        try simp only [Act.put, List.setIfInBounds_toArray, List.set_cons_zero, List.set_cons_succ]
        refine restS_take (i := 8) SV.out rfl (by kernel_rfl) (by kernel_rfl) (by kernel_rfl) (by rfl) (fun v hv => by obtain ⟨v1, v2, v3, v4, v5⟩ := hv; go_simp; try with_reducible rfl) ?_
        try simp only [Act.put, List.setIfInBounds_toArray, List.set_cons_zero, List.set_cons_succ]
        refine restS_take (i := 9) SV.out rfl (by kernel_rfl) (by kernel_rfl) (by kernel_rfl) (by rfl) (fun v hv => by obtain ⟨v1, v2, v3, v4, v5⟩ := hv; go_simp; try with_reducible rfl) ?_
        try simp only [Act.put, List.setIfInBounds_toArray, List.set_cons_zero, List.set_cons_succ]
        refine restS_take (i := 10) SV.out rfl (by kernel_rfl) (by kernel_rfl) (by kernel_rfl) (by rfl) (fun v hv => by obtain ⟨v1, v2, v3, v4, v5⟩ := hv; go_simp; try with_reducible rfl) ?_
        try simp only [Act.put, List.setIfInBounds_toArray, List.set_cons_zero, List.set_cons_succ]
        refine restS_take (i := 11) SV.out rfl (by kernel_rfl) (by kernel_rfl) (by kernel_rfl) (by rfl) (fun v hv => by obtain ⟨v1, v2, v3, v4, v5⟩ := hv; go_simp; try with_reducible rfl) ?_
        try simp only [Act.put, List.setIfInBounds_toArray, List.set_cons_zero, List.set_cons_succ]
        refine restS_take (i := 12) SV.out rfl (by kernel_rfl) (by kernel_rfl) (by kernel_rfl) (by rfl) (fun v hv => by obtain ⟨v1, v2, v3, v4, v5⟩ := hv; go_simp; try with_reducible rfl) ?_
        try simp only [Act.put, List.setIfInBounds_toArray, List.set_cons_zero, List.set_cons_succ]
        refine restS_take (i := 13) SV.out rfl (by kernel_rfl) (by kernel_rfl) (by kernel_rfl) (by rfl) (fun v hv => by obtain ⟨v1, v2, v3, v4, v5⟩ := hv; go_simp; try with_reducible rfl) ?_
        try simp only [Act.put, List.setIfInBounds_toArray, List.set_cons_zero, List.set_cons_succ]
        refine restS_take (i := 14) SV.out rfl (by kernel_rfl) (by kernel_rfl) (by kernel_rfl) (by rfl) (fun v hv => by obtain ⟨v1, v2, v3, v4, v5⟩ := hv; go_simp; try with_reducible rfl) ?_
        try simp only [Act.put, List.setIfInBounds_toArray, List.set_cons_zero, List.set_cons_succ]
        refine restS_take (i := 15) SV.out rfl (by kernel_rfl) (by kernel_rfl) (by kernel_rfl) (by rfl) (fun v hv => by obtain ⟨v1, v2, v3, v4, v5⟩ := hv; go_simp; try with_reducible rfl) ?_
        try simp only [Act.put, List.setIfInBounds_toArray, List.set_cons_zero, List.set_cons_succ]
        refine restS_take (i := 16) SV.out rfl (by kernel_rfl) (by kernel_rfl) (by kernel_rfl) (by rfl) (fun v hv => by obtain ⟨v1, v2, v3, v4, v5⟩ := hv; go_simp; try with_reducible rfl) ?_
        try simp only [Act.put, List.setIfInBounds_toArray, List.set_cons_zero, List.set_cons_succ]
        refine restS_take (i := 17) SV.out rfl (by kernel_rfl) (by kernel_rfl) (by kernel_rfl) (by rfl) (fun v hv => by obtain ⟨v1, v2, v3, v4, v5⟩ := hv; go_simp; try with_reducible rfl) ?_
        try simp only [Act.put, List.setIfInBounds_toArray, List.set_cons_zero, List.set_cons_succ]
        refine restS_take (i := 18) SV.out rfl (by kernel_rfl) (by kernel_rfl) (by kernel_rfl) (by rfl) (fun v hv => by obtain ⟨v1, v2, v3, v4, v5⟩ := hv; go_simp; try with_reducible rfl) ?_
        try simp only [Act.put, List.setIfInBounds_toArray, List.set_cons_zero, List.set_cons_succ]
        refine restS_lone (i := 19) rfl (by kernel_rfl) (by rfl) (fun K hK => ?_)
        go_simp
        refine hK.out _ _ SX.out ?_
        clear hK K
        try simp only [Act.put, List.setIfInBounds_toArray, List.set_cons_zero, List.set_cons_succ]
        refine restS_done (by kernel_rfl) ?_
        go_wp2
        go_roundw
        case rel => exact ⟨k + 1, rfl, by omega, HNx.out, HCx.out⟩
        case measure => simp [intOf]; omega
      · have bk : ¬ (k : Int) < (m : Int) := by omega
        obtain rfl : k = m := by omega
        have HF := Lib.hid (show s.pend.take k = s.pend by rw [HM.out]; exact List.take_length)
        rw [HF.out] at HZ
        have hf1 := HZ.out.frozen 1
        have hx1 : ∃ u, wr.cell? ⟨R, 1, none⟩ = some u := ⟨_, q1⟩
        have HZ1 := Lib.hid HZ.out.nilA
        have hf2 := HZ1.out.frozen 2
        obtain ⟨dk, da, dw, _, _, _, _, _, p2, _, _⟩ := HZ1.out.cells
        have HZ2 := Lib.hid HZ1.out.nilW
        clear q0 q1 q2 q3 q4 l1 l2 l3
        go_wp2
        go_ret
        rw [HE.out]
        refine ⟨rfl, Ak, none, none, HZ2.out, ?_, ?_⟩
        · intro k hk
          rcases hk with hk | hk | ⟨x, hx, _⟩ | ⟨x, hx, _⟩
          · exact .inl (.inl hk)
          · exact .inl (.inr (.inl hk))
          · cases hx
          · cases hx
        · exact Ch.setCell (Ch.setCell HC.out (p := ⟨R, 1, none⟩) (.inl (.inl rfl)) _) (p := ⟨R, 2, none⟩) (.inl (.inl rfl)) _
end
end Go.Proofs.Yteigfpgdnfladaa.S13
