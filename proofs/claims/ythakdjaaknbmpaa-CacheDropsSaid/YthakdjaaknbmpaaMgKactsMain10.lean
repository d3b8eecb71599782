/-
  Contracts of the reference's device: Flush, Crash. Contract of the reference's device: Crash.
-/
import Derived.Test.YthakdjaaknbmpaaMgKactsMain9
namespace Go.Proofs.Ythakdjaaknbmpaa.S13
open Cf
open Go.RowKit
set_option linter.unusedVariables false
set_option linter.unusedSimpArgs false

theorem lay_snoc (kept : List (List UInt8)) (l : List (Nat × List UInt8)) (k : Nat) (hk : k < l.length) : lay kept (l.take (k + 1)) = (lay kept (l.take k)).set l[k].1 l[k].2 := by
  rw [List.take_add_one, List.getElem?_eq_getElem hk]
  unfold lay
  rw [List.foldl_append]
  rfl
/-- With these sectors kept. -/
def withK (st : Dv) (k : List (List UInt8)) : Dv := { st with kept := k }
section
variable {base R : Nat} {Ak Aa Aw : Option Addr} {st : Dv} {w : World} {i : Nat}
theorem Rv.nilA {s : Rs} (h : Rv w base R Ak Aa Aw s) : Rv (w.setCell ⟨R, 1, none⟩ (.slice none 0 0)) base R Ak none Aw { s with at_ := [] } := by
  obtain ⟨ck, ca, cw, hR, h1, h2, h3⟩ := h.ex
  exact { h with na := (fun x hx => by cases hx), ka := (fun x y hx hy => by cases hy), aw := (fun x y hx => by cases hx), ex := ⟨ck, 0, cw, by rw [heap_setCell_same w R 1 _ _ _ hR]; rfl, Rv.offR h.nk h1 1 _, Ow.nil _ _ _, Rv.offR h.nw h3 1 _⟩ }
theorem Rv.nilW {s : Rs} (h : Rv w base R Ak Aa Aw s) : Rv (w.setCell ⟨R, 2, none⟩ (.slice none 0 0)) base R Ak Aa none { s with what := [] } := by
  obtain ⟨ck, ca, cw, hR, h1, h2, h3⟩ := h.ex
  exact { h with nw := (fun x hx => by cases hx), kw := (fun x y hx hy => by cases hy), aw := (fun x y hx hy => by cases hy), ex := ⟨ck, ca, 0, by rw [heap_setCell_same w R 2 _ _ _ hR]; rfl, Rv.offR h.nk h1 2 _, Rv.offR h.na h2 2 _, Ow.nil _ _ _⟩ }
set_option maxRecDepth 20000 in
set_option maxHeartbeats 4000000 in
theorem refFlush_any (h : Rv w base R Ak Aa Aw (raw st)) (hk : Ok st i) (hi : i ≤ 1000) (hl : st.kept.length ≤ 70000) :
    Calls Try.prog 19 #[.pointer (some ⟨R, 0, none⟩)] w fun e w' => e = .returned (.int .i64 (dvFlush st).1) ∧ Od base R w (RV R Ak Aa Aw) (dvFlush st).2 w' := by
  have H := Lib.hid h
  have HK := Lib.hid hk
  clear h hk
  go_enter Try.func19, Try.ntmps19
  go_wp2_with fail
  refine (refOn_any H.out HK.out).mono ?_
  rintro e w1 ⟨rfl, hz, hc⟩
  have HZ := Lib.hid hz
  have HC := Lib.hid hc
  clear hz hc
  cases hon : isOn st with
  | false =>
    have HE := Lib.hid (show dvFlush st = (10, st) by unfold dvFlush; rw [hon]; rfl)
    have HT := Lib.hid (tick_off hon)
    clear hon
    go_wp2
    go_ret
    rw [HE.out]
    exact ⟨rfl, od_same (HT.out ▸ HZ.out) HC.out⟩
  | true =>
    have HE := Lib.hid (show dvFlush st = (0, { withK (tick st) (lay (tick st).kept (tick st).pend) with pend := [] }) by unfold dvFlush withK; rw [hon, tick_kept, tick_pend]; rfl)
    have HKt := Lib.hid HK.out.tick
    clear hon
    obtain ⟨s, hs⟩ : ∃ s, s = tick st := ⟨_, rfl⟩
    have HLs := Lib.hid (show s.kept.length ≤ 70000 by rw [hs, tick_kept]; exact hl)
    rw [← hs] at HZ HKt HE
    clear hs HK
    obtain ⟨m, hm⟩ : ∃ m, m = s.pend.length := ⟨_, rfl⟩
    have HM := Lib.hid hm
    have hml : m ≤ 1000 := by have := HKt.out.few; omega
    clear hm
    have HZ0 := Lib.hid (show Rv w1 base R Ak Aa Aw (raw (withK s (lay s.kept (s.pend.take 0)))) from HZ.out)
    clear HZ
    go_wp2_with fail
    go_loopw [3] (fun v3 wr => ∃ (k : Nat), v3 = .int .i64 (k : Int) ∧ k ≤ m ∧ Hid (Rv wr base R Ak Aa Aw (raw (withK s (lay s.kept (s.pend.take k))))) ∧ Hid (Ch (RV R Ak Aa Aw) w wr)) (fun v3 _ => m - (intOf v3).toNat)
    case atStart => exact ⟨0, rfl, Nat.zero_le _, HZ0.out, HC.out⟩
    case round =>
      clear HZ0 HC
      obtain ⟨k, rfl, hkm, HZ, HC⟩ := hrel
      obtain ⟨ck, ca, cw, l1, l2, l3, q0, q1, q2, q3, q4⟩ := HZ.out.cells
      have hc1 : wr.cell? ⟨R, 1, none⟩ = some (.slice Aa m ca) := by rw [q1, HM.out]; simp [raw, withK]
      by_cases hlt : k < m
      · have bk : (k : Int) < (m : Int) := by omega
        have hkp : k < s.pend.length := by have := HM.out; omega
        clear q0 q1 q2 q3 q4 l1 l2 l3
        go_wp2_with fail
        try simp only [Act.put, List.setIfInBounds_toArray, List.set_cons_zero, List.set_cons_succ]
        clear hc1
        have GD := Lib.hid (show Grown wr wr.drew from (Below.refl _ wr).drew)
        have HZd := Lib.hid (HZ.out.grow GD.out)
        have HCd := Lib.hid HC.out.drew
        clear HZ HC
        obtain ⟨pa, hpa⟩ : ∃ p, p = s.pend[k].1 := ⟨_, rfl⟩
        obtain ⟨pw, hpw⟩ : ∃ p, p = s.pend[k].2 := ⟨_, rfl⟩
        have hpl : pa < s.kept.length := by rw [hpa]; exact (HKt.out.pend _ (List.getElem_mem hkp)).1
        generalize hwd : wr.drew = wd at HZd HCd ⊢
        obtain ⟨ga, rfl, hga, hca0⟩ := HZd.out.atAt k (by simp [raw, withK]; exact hkp)
        obtain ⟨gw, rfl, hgw, hcw0⟩ := HZd.out.whatAt k (by simp [raw, withK]; exact hkp)
        obtain ⟨gk, rfl, hgb, hgk, hgR, hck0, hfz⟩ := HZd.out.keptAt pa (by simp [raw, withK, lay_len]; exact hpl)
        obtain ⟨dk, da, dw, l1, l2, l3, q0, q1, q2, q3, q4⟩ := HZd.out.cells
        have SV := Lib.hid (show wd.cell? ⟨R, 0, none⟩ = some (.slice (some ⟨gk, 0, none⟩) s.kept.length dk) ∧ wd.cell? ⟨R, 1, none⟩ = some (.slice (some ⟨ga, 0, none⟩) m da) ∧ wd.cell? ⟨R, 2, none⟩ = some (.slice (some ⟨gw, 0, none⟩) m dw) ∧ wd.cell? ⟨ga, k, none⟩ = some (.int .i64 (pa : Int)) ∧ wd.cell? ⟨gw, k, none⟩ = some (.string ⟨pw.toArray⟩) from
          ⟨by rw [q0]; simp [raw, withK, lay_len], by rw [q1, HM.out]; simp [raw, withK], by rw [q2, HM.out]; simp [raw, withK], by rw [hca0, hpa]; simp [raw, iv, withK], by rw [hcw0, hpw]; simp [raw, sv, withK]⟩)
        have HNx := Lib.hid (show Rv (wd.setCell ⟨gk, pa, none⟩ (.string ⟨pw.toArray⟩)) base R (some ⟨gk, 0, none⟩) (some ⟨ga, 0, none⟩) (some ⟨gw, 0, none⟩) (raw (withK s (lay s.kept (s.pend.take (k + 1))))) by
          have := HZd.out.setKept pa (by simp [raw, withK, lay_len]; exact hpl) pw
          rw [lay_snoc _ _ _ hkp, ← hpa, ← hpw]
          exact this)
        have HCx := Lib.hid (show Ch (RV R (some ⟨gk, 0, none⟩) (some ⟨ga, 0, none⟩) (some ⟨gw, 0, none⟩)) w (wd.setCell ⟨gk, pa, none⟩ (.string ⟨pw.toArray⟩)) from Ch.setCell HCd.out (p := ⟨gk, pa, none⟩) (.inl (.inr (.inl ⟨_, rfl, rfl⟩))) _)
        have hne1 : gk ≠ R := hgR
        have hne2 : gk ≠ ga := HZd.out.ka _ _ rfl rfl
        have hne3 : gk ≠ gw := HZd.out.kw _ _ rfl rfl
        have SX := Lib.hid (show (wd.setCell ⟨gk, pa, none⟩ (.string ⟨pw.toArray⟩)).cell? ⟨R, 0, none⟩ = some (.slice (some ⟨gk, 0, none⟩) s.kept.length dk) ∧ (wd.setCell ⟨gk, pa, none⟩ (.string ⟨pw.toArray⟩)).cell? ⟨R, 1, none⟩ = some (.slice (some ⟨ga, 0, none⟩) m da) ∧ (wd.setCell ⟨gk, pa, none⟩ (.string ⟨pw.toArray⟩)).cell? ⟨R, 2, none⟩ = some (.slice (some ⟨gw, 0, none⟩) m dw) ∧ (wd.setCell ⟨gk, pa, none⟩ (.string ⟨pw.toArray⟩)).cell? ⟨ga, k, none⟩ = some (.int .i64 (pa : Int)) ∧ (wd.setCell ⟨gk, pa, none⟩ (.string ⟨pw.toArray⟩)).cell? ⟨gw, k, none⟩ = some (.string ⟨pw.toArray⟩) from
          ⟨(World.cell?_of_block (a := ⟨R, 0, none⟩) (heap_setCell_other wd ⟨gk, pa, none⟩ R _ (Ne.symm hne1))).trans SV.out.1, (World.cell?_of_block (a := ⟨R, 1, none⟩) (heap_setCell_other wd ⟨gk, pa, none⟩ R _ (Ne.symm hne1))).trans SV.out.2.1, (World.cell?_of_block (a := ⟨R, 2, none⟩) (heap_setCell_other wd ⟨gk, pa, none⟩ R _ (Ne.symm hne1))).trans SV.out.2.2.1, (World.cell?_of_block (a := ⟨ga, k, none⟩) (heap_setCell_other wd ⟨gk, pa, none⟩ ga _ (Ne.symm hne2))).trans SV.out.2.2.2.1, (World.cell?_of_block (a := ⟨gw, k, none⟩) (heap_setCell_other wd ⟨gk, pa, none⟩ gw _ (Ne.symm hne3))).trans SV.out.2.2.2.2⟩)
        clear hca0 hcw0 hpa hpw q0 q1 q2 q3 q4 l1 l2 l3 hne1 hne2 hne3
        have hpl2 : (pa : Int) < (s.kept.length : Int) := by omega
        have hbk : (k : Int) < (m : Int) := bk
        refine restS_begin (fun v : World => v.cell? ⟨R, 0, none⟩ = some (.slice (some ⟨gk, 0, none⟩) s.kept.length dk) ∧ v.cell? ⟨R, 1, none⟩ = some (.slice (some ⟨ga, 0, none⟩) m da) ∧ v.cell? ⟨R, 2, none⟩ = some (.slice (some ⟨gw, 0, none⟩) m dw) ∧ v.cell? ⟨ga, k, none⟩ = some (.int .i64 (pa : Int)) ∧ v.cell? ⟨gw, k, none⟩ = some (.string ⟨pw.toArray⟩)) (by kernel_rfl) ?_
        rw [hwd]
        clear hwd
        refine restS_take (i := 0) SV.out rfl (by kernel_rfl) (by kernel_rfl) (by kernel_rfl) (by rfl) (fun v hv => by obtain ⟨v1, v2, v3, v4, v5⟩ := hv; go_simp; try with_reducible rfl) ?_
        try simp only [Act.put, List.setIfInBounds_toArray, List.set_cons_zero, List.set_cons_succ]
        refine restS_take (i := 1) SV.out rfl (by kernel_rfl) (by kernel_rfl) (by kernel_rfl) (by rfl) (fun v hv => by obtain ⟨v1, v2, v3, v4, v5⟩ := hv; go_simp; try with_reducible rfl) ?_
        try simp only [Act.put, List.setIfInBounds_toArray, List.set_cons_zero, List.set_cons_succ]
        refine restS_take (i := 2) SV.out rfl (by kernel_rfl) (by kernel_rfl) (by kernel_rfl) (by rfl) (fun v hv => by obtain ⟨v1, v2, v3, v4, v5⟩ := hv; go_simp; try with_reducible rfl) ?_
        try simp only [Act.put, List.setIfInBounds_toArray, List.set_cons_zero, List.set_cons_succ]
        refine restS_take (i := 3) SV.out rfl (by kernel_rfl) (by kernel_rfl) (by kernel_rfl) (by rfl) (fun v hv => by obtain ⟨v1, v2, v3, v4, v5⟩ := hv; go_simp; try with_reducible rfl) ?_
        try simp only [Act.put, List.setIfInBounds_toArray, List.set_cons_zero, List.set_cons_succ]
        refine restS_take (i := 4) SV.out rfl (by kernel_rfl) (by kernel_rfl) (by kernel_rfl) (by rfl) (fun v hv => by obtain ⟨v1, v2, v3, v4, v5⟩ := hv; go_simp; try with_reducible rfl) ?_
        try simp only [Act.put, List.setIfInBounds_toArray, List.set_cons_zero, List.set_cons_succ]
        refine restS_take (i := 5) SV.out rfl (by kernel_rfl) (by kernel_rfl) (by kernel_rfl) (by rfl) (fun v hv => by obtain ⟨v1, v2, v3, v4, v5⟩ := hv; go_simp; try with_reducible rfl) ?_
        try simp only [Act.put, List.setIfInBounds_toArray, List.set_cons_zero, List.set_cons_succ]
        refine restS_take (i := 6) SV.out rfl (by kernel_rfl) (by kernel_rfl) (by kernel_rfl) (by rfl) (fun v hv => by obtain ⟨v1, v2, v3, v4, v5⟩ := hv; go_simp; try with_reducible rfl) ?_
        try simp only [Act.put, List.setIfInBounds_toArray, List.set_cons_zero, List.set_cons_succ]
        refine restS_take (i := 7) SV.out rfl (by kernel_rfl) (by kernel_rfl) (by kernel_rfl) (by rfl) (fun v hv => by obtain ⟨v1, v2, v3, v4, v5⟩ := hv; go_simp; try with_reducible rfl) ?_
        try simp only [Act.put, List.setIfInBounds_toArray, List.set_cons_zero, List.set_cons_succ]
        refine restS_take (i := 8) SV.out rfl (by kernel_rfl) (by kernel_rfl) (by kernel_rfl) (by rfl) (fun v hv => by obtain ⟨v1, v2, v3, v4, v5⟩ := hv; go_simp; try with_reducible rfl) ?_
        try simp only [Act.put, List.setIfInBounds_toArray, List.set_cons_zero, List.set_cons_succ]
        refine restS_take (i := 9) SV.out rfl (by kernel_rfl) (by kernel_rfl) (by kernel_rfl) (by rfl) (fun v hv => by obtain ⟨v1, v2, v3, v4, v5⟩ := hv; go_simp; try with_reducible rfl) ?_
        try simp only [Act.put, List.setIfInBounds_toArray, List.set_cons_zero, List.set_cons_succ]
        refine restS_take (i := 10) SV.out rfl (by kernel_rfl) (by kernel_rfl) (by kernel_rfl) (by rfl) (fun v hv => by obtain ⟨v1, v2, v3, v4, v5⟩ := hv; go_simp; try with_reducible rfl) ?_
        try simp only [Act.put, List.setIfInBounds_toArray, List.set_cons_zero, List.set_cons_succ]
        refine restS_take (i := 11) SV.out rfl (by kernel_rfl) (by kernel_rfl) (by kernel_rfl) (by rfl) (fun v hv => by obtain ⟨v1, v2, v3, v4, v5⟩ := hv; go_simp; try with_reducible rfl) ?_
        try simp only [Act.put, List.setIfInBounds_toArray, List.set_cons_zero, List.set_cons_succ]
        refine restS_take (i := 12) SV.out rfl (by kernel_rfl) (by kernel_rfl) (by kernel_rfl) (by rfl) (fun v hv => by obtain ⟨v1, v2, v3, v4, v5⟩ := hv; go_simp; try with_reducible rfl) ?_
        try simp only [Act.put, List.setIfInBounds_toArray, List.set_cons_zero, List.set_cons_succ]
        refine restS_take (i := 13) SV.out rfl (by kernel_rfl) (by kernel_rfl) (by kernel_rfl) (by rfl) (fun v hv => by obtain ⟨v1, v2, v3, v4, v5⟩ := hv; go_simp; try with_reducible rfl) ?_
        try simp only [Act.put, List.setIfInBounds_toArray, List.set_cons_zero, List.set_cons_succ]
        refine restS_take (i := 14) SV.out rfl (by kernel_rfl) (by kernel_rfl) (by kernel_rfl) (by rfl) (fun v hv => by obtain ⟨v1, v2, v3, v4, v5⟩ := hv; go_simp; try with_reducible rfl) ?_
        try simp only [Act.put, List.setIfInBounds_toArray, List.set_cons_zero, List.set_cons_succ]
        refine restS_take (i := 15) SV.out rfl (by kernel_rfl) (by kernel_rfl) (by kernel_rfl) (by rfl) (fun v hv => by obtain ⟨v1, v2, v3, v4, v5⟩ := hv; go_simp; try with_reducible rfl) ?_
        try simp only [Act.put, List.setIfInBounds_toArray, List.set_cons_zero, List.set_cons_succ]
        refine restS_take (i := 16) SV.out rfl (by kernel_rfl) (by kernel_rfl) (by kernel_rfl) (by rfl) (fun v hv => by obtain ⟨v1, v2, v3, v4, v5⟩ := hv; go_simp; try with_reducible rfl) ?_
        try simp only [Act.put, List.setIfInBounds_toArray, List.set_cons_zero, List.set_cons_succ]
        refine restS_take (i := 17) SV.out rfl (by kernel_rfl) (by kernel_rfl) (by kernel_rfl) (by rfl) (fun v hv => by obtain ⟨v1, v2, v3, v4, v5⟩ := hv; go_simp; try with_reducible rfl) ?_
        try simp only [Act.put, List.setIfInBounds_toArray, List.set_cons_zero, List.set_cons_succ]
        refine restS_take (i := 18) SV.out rfl (by kernel_rfl) (by kernel_rfl) (by kernel_rfl) (by rfl) (fun v hv => by obtain ⟨v1, v2, v3, v4, v5⟩ := hv; go_simp; try with_reducible rfl) ?_
        try simp only [Act.put, List.setIfInBounds_toArray, List.set_cons_zero, List.set_cons_succ]
        refine restS_lone (i := 19) rfl (by kernel_rfl) (by rfl) (fun K hK => ?_)
        go_simp
        refine hK.out _ _ SX.out ?_
        clear hK K
        try simp only [Act.put, List.setIfInBounds_toArray, List.set_cons_zero, List.set_cons_succ]
        refine restS_done (by kernel_rfl) ?_
        go_wp2
        go_roundw
        case rel => exact ⟨k + 1, rfl, by omega, HNx.out, HCx.out⟩
        case measure => simp [intOf]; omega
      · have bk : ¬ (k : Int) < (m : Int) := by omega
        obtain rfl : k = m := by omega
        have HF := Lib.hid (show s.pend.take k = s.pend by rw [HM.out]; exact List.take_length)
        rw [HF.out] at HZ
        have hf1 := HZ.out.frozen 1
        have hx1 : ∃ u, wr.cell? ⟨R, 1, none⟩ = some u := ⟨_, q1⟩
        have HZ1 := Lib.hid HZ.out.nilA
        have hf2 := HZ1.out.frozen 2
        obtain ⟨dk, da, dw, _, _, _, _, _, p2, _, _⟩ := HZ1.out.cells
        have HZ2 := Lib.hid HZ1.out.nilW
        clear q0 q1 q2 q3 q4 l1 l2 l3
        go_wp2
        go_ret
        rw [HE.out]
        refine ⟨rfl, Ak, none, none, HZ2.out, ?_, ?_⟩
        · intro k hk
          rcases hk with hk | hk | ⟨x, hx, _⟩ | ⟨x, hx, _⟩
          · exact .inl (.inl hk)
          · exact .inl (.inr (.inl hk))
          · cases hx
          · cases hx
        · exact Ch.setCell (Ch.setCell HC.out (p := ⟨R, 1, none⟩) (.inl (.inl rfl)) _) (p := ⟨R, 2, none⟩) (.inl (.inl rfl)) _
end
end Go.Proofs.Ythakdjaaknbmpaa.S13
namespace Go.Proofs.Ythakdjaaknbmpaa.S13
open Cf
open Go.RowKit
set_option linter.unusedVariables false
set_option linter.unusedSimpArgs false

/-- Numbers at A, below B. -/
def RdN (w : World) (B : Nat) (A : Option Addr) (l : List Int) : Prop := l = [] ∨ ∃ b off, A = some ⟨b, off, none⟩ ∧ b < B ∧ ∀ j (h : j < l.length), w.cell? ⟨b, off + j, none⟩ = some (.int .i64 l[j])
theorem pick_snoc (keep : List Int) (p : Nat × List UInt8) : ∀ (l : List (Nat × List UInt8)) (j : Nat), pick keep j (l ++ [p]) = pick keep j l ++ (if ((j + l.length : Nat) : Int) ∈ keep then [p] else [])
  | [], j => by
    show (if (j : Int) ∈ keep then p :: pick keep (j + 1) [] else pick keep (j + 1) []) = _
    simp only [List.length_nil, Nat.add_zero]
    split <;> simp [pick]
  | q :: l, j => by
    have ih := pick_snoc keep p l (j + 1)
    have e : j + (q :: l).length = j + 1 + l.length := by simp; omega
    rw [e]
    simp only [List.cons_append, pick]
    split
    · rw [ih]; rfl
    · exact ih
theorem pick_take (keep : List Int) (l : List (Nat × List UInt8)) (k : Nat) (hk : k < l.length) : pick keep 0 (l.take (k + 1)) = pick keep 0 (l.take k) ++ (if (k : Int) ∈ keep then [l[k]] else []) := by
  rw [List.take_add_one, List.getElem?_eq_getElem hk]
  show pick keep 0 (l.take k ++ [l[k]]) = _
  rw [pick_snoc, List.length_take, Nat.min_eq_left (by omega), Nat.zero_add]
theorem lay_one (kept : List (List UInt8)) (l : List (Nat × List UInt8)) (p : Nat × List UInt8) : lay kept (l ++ [p]) = (lay kept l).set p.1 p.2 := by
  unfold lay
  rw [List.foldl_append]
  rfl
section
variable {base R : Nat} {Ak Aa Aw : Option Addr} {st : Dv} {w : World} {i : Nat}
set_option maxRecDepth 20000 in
set_option maxHeartbeats 8000000 in
theorem refCrash_any (h : Rv w base R Ak Aa Aw (raw st)) (hk : Ok st i) (hi : i ≤ 1000) (hl : st.kept.length ≤ 70000) (D : Option Addr) (nd cd : Nat) (keep : List Int) (hD : RdN w w.heap.size D keep) (hnd : keep.length = nd) (hnd2 : nd ≤ 1000) (hoff : ∀ x, D = some x → keep ≠ [] → ¬ RV R Ak Aa Aw x.block) :
    Calls Try.prog 23 #[.pointer (some ⟨R, 0, none⟩), .slice D nd cd] w fun e w' => e = .returned (.int .i64 (dvCrash st keep).1) ∧ Od base R w (RV R Ak Aa Aw) (dvCrash st keep).2 w' := by
  have HK := Lib.hid hk
  have HD := Lib.hid hD
  have HND := Lib.hid hnd
  have HOff := Lib.hid hoff
  obtain ⟨m, hm⟩ : ∃ m, m = st.pend.length := ⟨_, rfl⟩
  have HM := Lib.hid hm
  have hml : m ≤ 1000 := by have := HK.out.few; omega
  have HZ0 := Lib.hid (show Rv w base R Ak Aa Aw (raw (withK st (lay st.kept (pick keep 0 (st.pend.take 0))))) from h)
  clear hm h hk hD hnd hoff
  go_enter Try.func23, Try.ntmps23
  go_wp2
  go_loopw [5, 6, 7, 8] (fun v5 v6 v7 v8 wr => ∃ (k : Nat), v5 = .int .i64 ((pick keep 0 (st.pend.take k)).length : Int) ∧ v6 = .int .i64 (k : Int) ∧ k ≤ m ∧ Hid (Rv wr base R Ak Aa Aw (raw (withK st (lay st.kept (pick keep 0 (st.pend.take k)))))) ∧ Hid (Ch (RV R Ak Aa Aw) w wr)) (fun _ v6 _ _ _ => m - (intOf v6).toNat)
  case atStart => exact ⟨0, rfl, rfl, Nat.zero_le _, HZ0.out, Ch.refl _ _⟩
  case round =>
    clear HZ0
    obtain ⟨k, rfl, rfl, hkm, HZ, HC⟩ := hrel
    obtain ⟨ck, ca, cw, l1, l2, l3, q0, q1, q2, q3, q4⟩ := HZ.out.cells
    have hc1 : wr.cell? ⟨R, 1, none⟩ = some (.slice Aa m ca) := by rw [q1, HM.out]; simp [raw, withK]
    by_cases hlt : k < m
    · have bk : (k : Int) < (m : Int) := by omega
      have hkp : k < st.pend.length := by have := HM.out; omega
      clear q0 q1 q2 q3 q4 l1 l2 l3
      obtain ⟨cnt, hcnt⟩ : ∃ c, c = (pick keep 0 (st.pend.take k)).length := ⟨_, rfl⟩
      rw [← hcnt]
      have HCnt := Lib.hid hcnt
      have hcl : cnt ≤ 1000 := by
        rw [hcnt]
        have hsub : ∀ (l : List (Nat × List UInt8)) (j : Nat), (pick keep j l).length ≤ l.length := by
          intro l
          induction l with
          | nil => intro j; exact Nat.le_refl _
          | cons q l ih => intro j; unfold pick; split <;> simp <;> have := ih (j + 1) <;> omega
        have := hsub (st.pend.take k) 0
        rw [List.length_take] at this
        omega
      clear hcnt
      go_wp2_with fail
      clear hc1
      generalize wr = wo at HZ HC ⊢
      go_loopw [7, 8] (fun v7 v8 wr => ∃ (q : Nat) (p : Bool), v7 = .bool p ∧ v8 = .int .i64 (q : Int) ∧ q ≤ nd ∧ Hid (p = decide ((k : Int) ∈ keep.take q)) ∧ wr = wo) (fun _ v8 _ => nd - (intOf v8).toNat)
      case atStart => exact ⟨0, false, rfl, rfl, Nat.zero_le _, (show false = decide ((k : Int) ∈ keep.take 0) by simp), rfl⟩
      case round =>
        obtain ⟨q, p, rfl, rfl, hq, HP, rfl⟩ := hrel
        by_cases hlq : q < nd
        · have bq : (q : Int) < (nd : Int) := by omega
          have hqk : q < keep.length := by have := HND.out; omega
          obtain ⟨kb, ko, e, hkb, hkc⟩ : ∃ b off, D = some ⟨b, off, none⟩ ∧ b < w.heap.size ∧ ∀ j (h : j < keep.length), w.cell? ⟨b, off + j, none⟩ = some (.int .i64 keep[j]) := by
            rcases HD.out with e | h
            · rw [e] at hqk; simp at hqk
            · exact h
          obtain ⟨x, hx⟩ : ∃ x, x = keep[q] := ⟨_, rfl⟩
          have hcx : wr.cell? ⟨kb, ko + q, none⟩ = some (.int .i64 x) := by
            rw [HC.out.cell (p := ⟨kb, ko + q, none⟩) hkb (HOff.out ⟨kb, ko, none⟩ e (by intro e2; rw [e2] at hqk; simp at hqk)), hx]
            exact hkc q hqk
          subst e
          have HN := Lib.hid (show (p || decide (x = (k : Int))) = decide ((k : Int) ∈ keep.take (q + 1)) by
            rw [HP.out, hx, List.take_add_one, List.getElem?_eq_getElem hqk]
            simp only [Option.toList_some, List.mem_append, List.mem_singleton]
            rw [Bool.decide_or]
            congr 1
            exact decide_eq_decide.2 eq_comm)
          clear hx hkc HP
          cases p with
          | true =>
            have HN2 := Lib.hid (show true = decide ((k : Int) ∈ keep.take (q + 1)) by rw [← HN.out]; rfl)
            go_wp2
            exact ⟨⟨q + 1, true, by simp, by simp, by omega, HN2.out, trivial⟩, by simp [intOf]; omega⟩
          | false =>
            by_cases hxe : x = (k : Int)
            · have hbe : (x == (k : Int)) = true := by simp [hxe]
              have HN2 := Lib.hid (show true = decide ((k : Int) ∈ keep.take (q + 1)) by rw [← HN.out]; simp [hxe])
              clear hxe
              go_wp2
              exact ⟨⟨q + 1, true, by simp, by simp, by omega, HN2.out, trivial⟩, by simp [intOf]; omega⟩
            · have hbe : (x == (k : Int)) = false := beq_eq_false_iff_ne.2 hxe
              have HN2 := Lib.hid (show false = decide ((k : Int) ∈ keep.take (q + 1)) by rw [← HN.out]; simp [hxe])
              clear hxe
              go_wp2
              exact ⟨⟨q + 1, false, by simp, by simp, by omega, HN2.out, trivial⟩, by simp [intOf]; omega⟩
        · have bq : ¬ (q : Int) < (nd : Int) := by omega
          have HP2 := Lib.hid (show p = decide ((k : Int) ∈ keep) by rw [HP.out, List.take_of_length_le (by have := HND.out; omega)])
          clear HP
          cases p with
          | false =>
            have HPk := Lib.hid (show pick keep 0 (st.pend.take (k + 1)) = pick keep 0 (st.pend.take k) by
              rw [pick_take _ _ _ hkp, if_neg (of_decide_eq_false HP2.out.symm)]
              simp)
            go_wp2
            exact ⟨⟨k + 1, by rw [HPk.out, ← HCnt.out], by simp, by omega, by rw [HPk.out]; exact HZ.out, HC.out⟩, by simp [intOf]; omega⟩
          | true =>
            have HPk := Lib.hid (show pick keep 0 (st.pend.take (k + 1)) = pick keep 0 (st.pend.take k) ++ [st.pend[k]] by
              rw [pick_take _ _ _ hkp, if_pos (of_decide_eq_true HP2.out.symm)])
            go_wp2_with fail
            try simp only [Act.put, List.setIfInBounds_toArray, List.set_cons_zero, List.set_cons_succ]
            have GD := Lib.hid (show Grown wr wr.drew from (Below.refl _ wr).drew)
            have HZd := Lib.hid (HZ.out.grow GD.out)
            have HCd := Lib.hid HC.out.drew
            clear HZ HC
            obtain ⟨pa, hpa⟩ : ∃ p, p = st.pend[k].1 := ⟨_, rfl⟩
            obtain ⟨pw, hpw⟩ : ∃ p, p = st.pend[k].2 := ⟨_, rfl⟩
            have hpl : pa < st.kept.length := by rw [hpa]; exact (HK.out.pend _ (List.getElem_mem hkp)).1
            generalize hwd : wr.drew = wd at HZd HCd ⊢
            obtain ⟨ga, rfl, hga, hca0⟩ := HZd.out.atAt k (by simp [raw, withK]; exact hkp)
            obtain ⟨gw, rfl, hgw, hcw0⟩ := HZd.out.whatAt k (by simp [raw, withK]; exact hkp)
            obtain ⟨gk, rfl, hgb, hgk, hgR, hck0, hfz⟩ := HZd.out.keptAt pa (by simp [raw, withK, lay_len]; exact hpl)
            obtain ⟨dk, da, dw, l1, l2, l3, q0, q1, q2, q3, q4⟩ := HZd.out.cells
            have SV := Lib.hid (show wd.cell? ⟨R, 0, none⟩ = some (.slice (some ⟨gk, 0, none⟩) st.kept.length dk) ∧ wd.cell? ⟨R, 1, none⟩ = some (.slice (some ⟨ga, 0, none⟩) m da) ∧ wd.cell? ⟨R, 2, none⟩ = some (.slice (some ⟨gw, 0, none⟩) m dw) ∧ wd.cell? ⟨ga, k, none⟩ = some (.int .i64 (pa : Int)) ∧ wd.cell? ⟨gw, k, none⟩ = some (.string ⟨pw.toArray⟩) from
              ⟨by rw [q0]; simp [raw, withK, lay_len], by rw [q1, HM.out]; simp [raw, withK], by rw [q2, HM.out]; simp [raw, withK], by rw [hca0, hpa]; simp [raw, iv, withK], by rw [hcw0, hpw]; simp [raw, sv, withK]⟩)
            have HNx := Lib.hid (show Rv (wd.setCell ⟨gk, pa, none⟩ (.string ⟨pw.toArray⟩)) base R (some ⟨gk, 0, none⟩) (some ⟨ga, 0, none⟩) (some ⟨gw, 0, none⟩) (raw (withK st (lay st.kept (pick keep 0 (st.pend.take (k + 1)))))) by
              have := HZd.out.setKept pa (by simp [raw, withK, lay_len]; exact hpl) pw
              rw [HPk.out, lay_one, ← hpa, ← hpw]
              exact this)
            have HCx := Lib.hid (show Ch (RV R (some ⟨gk, 0, none⟩) (some ⟨ga, 0, none⟩) (some ⟨gw, 0, none⟩)) w (wd.setCell ⟨gk, pa, none⟩ (.string ⟨pw.toArray⟩)) from Ch.setCell HCd.out (p := ⟨gk, pa, none⟩) (.inl (.inr (.inl ⟨_, rfl, rfl⟩))) _)
            have hne1 : gk ≠ R := hgR
            have hne2 : gk ≠ ga := HZd.out.ka _ _ rfl rfl
            have hne3 : gk ≠ gw := HZd.out.kw _ _ rfl rfl
            have SX := Lib.hid (show (wd.setCell ⟨gk, pa, none⟩ (.string ⟨pw.toArray⟩)).cell? ⟨R, 0, none⟩ = some (.slice (some ⟨gk, 0, none⟩) st.kept.length dk) ∧ (wd.setCell ⟨gk, pa, none⟩ (.string ⟨pw.toArray⟩)).cell? ⟨R, 1, none⟩ = some (.slice (some ⟨ga, 0, none⟩) m da) ∧ (wd.setCell ⟨gk, pa, none⟩ (.string ⟨pw.toArray⟩)).cell? ⟨R, 2, none⟩ = some (.slice (some ⟨gw, 0, none⟩) m dw) ∧ (wd.setCell ⟨gk, pa, none⟩ (.string ⟨pw.toArray⟩)).cell? ⟨ga, k, none⟩ = some (.int .i64 (pa : Int)) ∧ (wd.setCell ⟨gk, pa, none⟩ (.string ⟨pw.toArray⟩)).cell? ⟨gw, k, none⟩ = some (.string ⟨pw.toArray⟩) from
              ⟨(World.cell?_of_block (a := ⟨R, 0, none⟩) (heap_setCell_other wd ⟨gk, pa, none⟩ R _ (Ne.symm hne1))).trans SV.out.1, (World.cell?_of_block (a := ⟨R, 1, none⟩) (heap_setCell_other wd ⟨gk, pa, none⟩ R _ (Ne.symm hne1))).trans SV.out.2.1, (World.cell?_of_block (a := ⟨R, 2, none⟩) (heap_setCell_other wd ⟨gk, pa, none⟩ R _ (Ne.symm hne1))).trans SV.out.2.2.1, (World.cell?_of_block (a := ⟨ga, k, none⟩) (heap_setCell_other wd ⟨gk, pa, none⟩ ga _ (Ne.symm hne2))).trans SV.out.2.2.2.1, (World.cell?_of_block (a := ⟨gw, k, none⟩) (heap_setCell_other wd ⟨gk, pa, none⟩ gw _ (Ne.symm hne3))).trans SV.out.2.2.2.2⟩)
            clear hca0 hcw0 hpa hpw q0 q1 q2 q3 q4 l1 l2 l3 hne1 hne2 hne3
            have hpl2 : (pa : Int) < (st.kept.length : Int) := by omega
            have hbk : (k : Int) < (m : Int) := bk
            refine restS_begin (fun v : World => v.cell? ⟨R, 0, none⟩ = some (.slice (some ⟨gk, 0, none⟩) st.kept.length dk) ∧ v.cell? ⟨R, 1, none⟩ = some (.slice (some ⟨ga, 0, none⟩) m da) ∧ v.cell? ⟨R, 2, none⟩ = some (.slice (some ⟨gw, 0, none⟩) m dw) ∧ v.cell? ⟨ga, k, none⟩ = some (.int .i64 (pa : Int)) ∧ v.cell? ⟨gw, k, none⟩ = some (.string ⟨pw.toArray⟩)) (by kernel_rfl) ?_
            rw [hwd]
            clear hwd
            refine restS_take (i := 0) SV.out rfl (by kernel_rfl) (by kernel_rfl) (by kernel_rfl) (by rfl) (fun v hv => by obtain ⟨v1, v2, v3, v4, v5⟩ := hv; go_simp; try with_reducible rfl) ?_
            try simp only [Act.put, List.setIfInBounds_toArray, List.set_cons_zero, List.set_cons_succ]
            refine restS_take (i := 1) SV.out rfl (by kernel_rfl) (by kernel_rfl) (by kernel_rfl) (by rfl) (fun v hv => by obtain ⟨v1, v2, v3, v4, v5⟩ := hv; go_simp; try with_reducible rfl) ?_
            try simp only [Act.put, List.setIfInBounds_toArray, List.set_cons_zero, List.set_cons_succ]
            refine restS_take (i := 2) SV.out rfl (by kernel_rfl) (by kernel_rfl) (by kernel_rfl) (by rfl) (fun v hv => by obtain ⟨v1, v2, v3, v4, v5⟩ := hv; go_simp; try with_reducible rfl) ?_
            try simp only [Act.put, List.setIfInBounds_toArray, List.set_cons_zero, List.set_cons_succ]
            refine restS_take (i := 3) SV.out rfl (by kernel_rfl) (by kernel_rfl) (by kernel_rfl) (by rfl) (fun v hv => by obtain ⟨v1, v2, v3, v4, v5⟩ := hv; go_simp; try with_reducible rfl) ?_
            try simp only [Act.put, List.setIfInBounds_toArray, List.set_cons_zero, List.set_cons_succ]
            refine restS_take (i := 4) SV.out rfl (by kernel_rfl) (by kernel_rfl) (by kernel_rfl) (by rfl) (fun v hv => by obtain ⟨v1, v2, v3, v4, v5⟩ := hv; go_simp; try with_reducible rfl) ?_
            try simp only [Act.put, List.setIfInBounds_toArray, List.set_cons_zero, List.set_cons_succ]
            refine restS_take (i := 5) SV.out rfl (by kernel_rfl) (by kernel_rfl) (by kernel_rfl) (by rfl) (fun v hv => by obtain ⟨v1, v2, v3, v4, v5⟩ := hv; go_simp; try with_reducible rfl) ?_
            try simp only [Act.put, List.setIfInBounds_toArray, List.set_cons_zero, List.set_cons_succ]
            refine restS_take (i := 6) SV.out rfl (by kernel_rfl) (by kernel_rfl) (by kernel_rfl) (by rfl) (fun v hv => by obtain ⟨v1, v2, v3, v4, v5⟩ := hv; go_simp; try with_reducible rfl) ?_
            try simp only [Act.put, List.setIfInBounds_toArray, List.set_cons_zero, List.set_cons_succ]
            refine restS_take (i := 7) SV.out rfl (by kernel_rfl) (by kernel_rfl) (by kernel_rfl) (by rfl) (fun v hv => by obtain ⟨v1, v2, v3, v4, v5⟩ := hv; go_simp; try with_reducible rfl) ?_
            try simp only [Act.put, List.setIfInBounds_toArray, List.set_cons_zero, List.set_cons_succ]
            refine restS_take (i := 8) SV.out rfl (by kernel_rfl) (by kernel_rfl) (by kernel_rfl) (by rfl) (fun v hv => by obtain ⟨v1, v2, v3, v4, v5⟩ := hv; go_simp; try with_reducible rfl) ?_
            try simp only [Act.put, List.setIfInBounds_toArray, List.set_cons_zero, List.set_cons_succ]
            refine restS_take (i := 9) SV.out rfl (by kernel_rfl) (by kernel_rfl) (by kernel_rfl) (by rfl) (fun v hv => by obtain ⟨v1, v2, v3, v4, v5⟩ := hv; go_simp; try with_reducible rfl) ?_
            try simp only [Act.put, List.setIfInBounds_toArray, List.set_cons_zero, List.set_cons_succ]
            refine restS_take (i := 10) SV.out rfl (by kernel_rfl) (by kernel_rfl) (by kernel_rfl) (by rfl) (fun v hv => by obtain ⟨v1, v2, v3, v4, v5⟩ := hv; go_simp; try with_reducible rfl) ?_
            try simp only [Act.put, List.setIfInBounds_toArray, List.set_cons_zero, List.set_cons_succ]
            refine restS_take (i := 11) SV.out rfl (by kernel_rfl) (by kernel_rfl) (by kernel_rfl) (by rfl) (fun v hv => by obtain ⟨v1, v2, v3, v4, v5⟩ := hv; go_simp; try with_reducible rfl) ?_
            try simp only [Act.put, List.setIfInBounds_toArray, List.set_cons_zero, List.set_cons_succ]
            refine restS_take (i := 12) SV.out rfl (by kernel_rfl) (by kernel_rfl) (by kernel_rfl) (by rfl) (fun v hv => by obtain ⟨v1, v2, v3, v4, v5⟩ := hv; go_simp; try with_reducible rfl) ?_
            try simp only [Act.put, List.setIfInBounds_toArray, List.set_cons_zero, List.set_cons_succ]
            refine restS_take (i := 13) SV.out rfl (by kernel_rfl) (by kernel_rfl) (by kernel_rfl) (by rfl) (fun v hv => by obtain ⟨v1, v2, v3, v4, v5⟩ := hv; go_simp; try with_reducible rfl) ?_
            try simp only [Act.put, List.setIfInBounds_toArray, List.set_cons_zero, List.set_cons_succ]
            refine restS_take (i := 14) SV.out rfl (by kernel_rfl) (by kernel_rfl) (by kernel_rfl) (by rfl) (fun v hv => by obtain ⟨v1, v2, v3, v4, v5⟩ := hv; go_simp; try with_reducible rfl) ?_
            try simp only [Act.put, List.setIfInBounds_toArray, List.set_cons_zero, List.set_cons_succ]
            refine restS_take (i := 15) SV.out rfl (by kernel_rfl) (by kernel_rfl) (by kernel_rfl) (by rfl) (fun v hv => by obtain ⟨v1, v2, v3, v4, v5⟩ := hv; go_simp; try with_reducible rfl) ?_
            try simp only [Act.put, List.setIfInBounds_toArray, List.set_cons_zero, List.set_cons_succ]
            refine restS_take (i := 16) SV.out rfl (by kernel_rfl) (by kernel_rfl) (by kernel_rfl) (by rfl) (fun v hv => by obtain ⟨v1, v2, v3, v4, v5⟩ := hv; go_simp; try with_reducible rfl) ?_
            try simp only [Act.put, List.setIfInBounds_toArray, List.set_cons_zero, List.set_cons_succ]
            refine restS_take (i := 17) SV.out rfl (by kernel_rfl) (by kernel_rfl) (by kernel_rfl) (by rfl) (fun v hv => by obtain ⟨v1, v2, v3, v4, v5⟩ := hv; go_simp; try with_reducible rfl) ?_
            try simp only [Act.put, List.setIfInBounds_toArray, List.set_cons_zero, List.set_cons_succ]
            refine restS_take (i := 18) SV.out rfl (by kernel_rfl) (by kernel_rfl) (by kernel_rfl) (by rfl) (fun v hv => by obtain ⟨v1, v2, v3, v4, v5⟩ := hv; go_simp; try with_reducible rfl) ?_
            try simp only [Act.put, List.setIfInBounds_toArray, List.set_cons_zero, List.set_cons_succ]
            refine restS_lone (i := 19) rfl (by kernel_rfl) (by rfl) (fun K hK => ?_)
            go_simp
            refine hK.out _ _ SX.out ?_
            clear hK K
            try simp only [Act.put, List.setIfInBounds_toArray, List.set_cons_zero, List.set_cons_succ]
            refine restS_done (by kernel_rfl) ?_
            go_wp2
            exact ⟨⟨k + 1, by rw [HPk.out, List.length_append, ← HCnt.out]; simp, by simp, by omega, HNx.out, HCx.out⟩, by simp [intOf]; omega⟩
    · have bk : ¬ (k : Int) < (m : Int) := by omega
      obtain rfl : k = m := by omega
      have HF := Lib.hid (show st.pend.take k = st.pend by rw [HM.out]; exact List.take_length)
      rw [HF.out] at HZ ⊢
      have hf1 := HZ.out.frozen 1
      have hx1 : ∃ u, wr.cell? ⟨R, 1, none⟩ = some u := ⟨_, q1⟩
      have HZ1 := Lib.hid HZ.out.nilA
      have hf2 := HZ1.out.frozen 2
      obtain ⟨dk, da, dw, _, _, _, _, _, p2, _, _⟩ := HZ1.out.cells
      have HZ2 := Lib.hid HZ1.out.nilW
      have hf4 := HZ2.out.frozen 4
      obtain ⟨dk2, da2, dw2, _, _, _, _, _, _, _, p4⟩ := HZ2.out.cells
      have HZ3 := Lib.hid (HZ2.out.setCalls (-1))
      clear q0 q1 q2 q3 q4 l1 l2 l3
      go_wp2
      go_ret
      refine ⟨rfl, Ak, none, none, HZ3.out, ?_, ?_⟩
      · intro k hk
        rcases hk with hk | hk | ⟨x, hx, _⟩ | ⟨x, hx, _⟩
        · exact .inl (.inl hk)
        · exact .inl (.inr (.inl hk))
        · cases hx
        · cases hx
      · exact Ch.setCell (Ch.setCell (Ch.setCell HC.out (p := ⟨R, 1, none⟩) (.inl (.inl rfl)) _) (p := ⟨R, 2, none⟩) (.inl (.inl rfl)) _) (p := ⟨R, 4, none⟩) (.inl (.inl rfl)) _
end
end Go.Proofs.Ythakdjaaknbmpaa.S13
