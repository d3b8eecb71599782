/-
  PadApart: the walk, out of the program's contracts.
-/
import Derived.Test.YtpfhpopfakfjhaaDoorPaC
namespace Go.Proofs.YtpfhpopfakfjhaaDoor.S10
open Go.RowKit
set_option linter.unusedVariables false
set_option linter.unusedSimpArgs false

theorem cutToL (W : World) (A : Option Addr) (m c d : Nat) (h : d ≤ c) : (Instr.slice 23 (.slice A m c) none (some (.int .i64 (d : Int))) none).run Tryd.prog W = .ok (.slice A d c) W := by
  obtain ⟨i0, hi, hz0, hz1, hz2⟩ := info_parts info5
  have he : Tryd.prog.elem 23 = 5 := by kernel_rfl
  rw [run_slice_h W 23 A m c (by rw [he]; exact Tryd.underlying23) .i64 (d : Int) (by omega) (by omega), he]
  cases A <;> simp [sizeOf, typeInfo, hi, hz1, sliced, Result.andThen, Addr.add]

set_option maxHeartbeats 4000000 in
set_option maxRecDepth 20000 in
theorem apart_yes (HF : FillOk) (HS : StripOk) (a b : List UInt8) (n m : Nat) (w : World) (hU : Un w) (hn : a.length = n) (hm : b.length = m) (ha : nameB a = true) (hb : nameB b = true) :
    Calls Tryd.prog 6 #[.string { data := a.toArray }, .string { data := b.toArray }] w (Says w true) := by
  have Hn := Lib.hid hn
  have Hm := Lib.hid hm
  have hna := name_len ha
  have hnb := name_len hb
  rw [hn] at hna
  rw [hm] at hnb
  obtain ⟨hn1, hn2⟩ := hna
  obtain ⟨hm1, hm2⟩ := hnb
  have HA := Lib.hid (fun V (g : Grown w V) => awakeP HF HS V (hU.grow g))
  have fx : ∀ (s : List UInt8) (u : Int), nameB s = true → (u = 16 ∨ u = 32) → fillB s u = true ∧ fillI s u = fillL s u.toNat := by
    intro s u hs hu
    have h : fillB s u = true := by unfold fillB; rw [hs, decide_eq_true hu]; rfl
    exact ⟨h, by unfold fillI; rw [if_pos h]⟩
  have ea := fx a 16 ha (.inl rfl)
  have eb := fx b 16 hb (.inl rfl)
  have ez := fx a 32 ha (.inr rfl)
  have CA := Lib.hid (fun V (g : Grown w V) => HF a n 16 V hn (by omega) (by omega) (by omega) (hU.grow g))
  have CB := Lib.hid (fun V (g : Grown w V) => HF b m 16 V hm (by omega) (by omega) (by omega) (hU.grow g))
  have CZ := Lib.hid (fun V (g : Grown w V) => HF a n 32 V hn (by omega) (by omega) (by omega) (hU.grow g))
  rw [ea.1, ea.2, show (16 : Int).toNat = 16 from rfl] at CA
  rw [eb.1, eb.2, show (16 : Int).toNat = 16 from rfl] at CB
  rw [ez.1, ez.2, show (32 : Int).toNat = 32 from rfl] at CZ
  have la := fill_len16 a (by omega)
  have lb := fill_len16 b (by omega)
  have lz := fill_len32 a (by omega)
  have hpq := up_wide a.length
  have hq128 := (up_32 a.length (by omega)).2.1
  have hbg := fill_begin a (by omega)
  have hij := fill_inj16 a b ha hb
  have hst := strip_fill32 a ha
  obtain ⟨p, hp⟩ : ∃ p, upN a.length 16 = p := ⟨_, rfl⟩
  obtain ⟨k, hk⟩ : ∃ k, upN b.length 16 = k := ⟨_, rfl⟩
  obtain ⟨q, hq⟩ : ∃ q, upN a.length 32 = q := ⟨_, rfl⟩
  obtain ⟨x, hx⟩ : ∃ x, fillL a 16 = x := ⟨_, rfl⟩
  obtain ⟨y, hy⟩ : ∃ y, fillL b 16 = y := ⟨_, rfl⟩
  obtain ⟨z, hz⟩ : ∃ z, fillL a 32 = z := ⟨_, rfl⟩
  rw [hx] at CA la hbg hij
  rw [hy] at CB lb hij
  rw [hz] at CZ lz hbg hst
  rw [hp] at la hbg hpq
  rw [hk] at lb
  rw [hq] at lz hpq hq128
  rw [hn] at hq128
  have LA := Lib.hid la
  have LB := Lib.hid lb
  have LZ := Lib.hid lz
  have HBG := Lib.hid hbg
  have CS := Lib.hid (fun A c V (g : Grown w V) (h1 : q ≤ c) h2 h3 => HS A q c z V lz h1 h2 h3 (by omega) (hU.grow g))
  rw [hst.1, hst.2] at CS
  have NA := Lib.hid (fun V => refName_any a n V hn (by unfold maxLen; omega))
  have NB := Lib.hid (fun V => refName_any b m V hm (by unfold maxLen; omega))
  rw [ha] at NA
  rw [hb] at NB
  obtain ⟨SX, hSX⟩ : ∃ S : ByteArray, S = ⟨x.toArray⟩ := ⟨_, rfl⟩
  obtain ⟨SY, hSY⟩ : ∃ S : ByteArray, S = ⟨y.toArray⟩ := ⟨_, rfl⟩
  obtain ⟨r, hr⟩ : ∃ r, r = decide (a = b) := ⟨_, rfl⟩
  have HE1 := Lib.hid (show (SX.toList == SY.toList) = r by
    rw [hr, hSX, hSY, slbeq]
    exact decide_eq_decide.2 hij)
  have HE2 := Lib.hid (show (a == b) = r by rw [hr]; cases hd : decide (a = b) <;> simpa using hd)
  have HSX := Lib.hid hSX
  have HSY := Lib.hid hSY
  have HSZ := Lib.hid (show SX = ⟨(z.take p).toArray⟩ by rw [hbg, hSX])
  have LP := Lib.hid (show (z.take p).length = p by rw [hbg, la])
  clear HF HS ea eb ez fx hx hy hz hp hk hq la lb lz ha hb hij hst hbg hSX hSY hr hq128
  go_enter Tryd.func6, Tryd.ntmps6
  go_wp2_with fail
  refine (HA.out _ (Grown.refl _)).mono ?_
  rintro e w1 ⟨rfl, hg1⟩
  have G1 := Lib.hid (show Grown w w1 from hg1)
  clear hg1
  go_wp2_with fail
  refine (NA.out _).mono ?_
  rintro e w2 ⟨rfl, rfl⟩
  go_wp2_with fail
  refine (NB.out _).mono ?_
  rintro e w2 ⟨rfl, rfl⟩
  clear NA NB
  go_wp2_with fail
  refine (CA.out _ G1.out).mono ?_
  rintro e w2 ⟨A2, c2, rfl, hc2, _, hr2, hg⟩
  have G2 := Lib.hid (Grown.trans G1.out hg)
  have R2 := Lib.hid hr2
  rw [LA.out] at hc2 ⊢
  clear hg hr2 G1 CA
  go_wp2_with fail
  refine (CB.out _ G2.out).mono ?_
  rintro e w3 ⟨A3, c3, rfl, hc3, _, hr3, hg⟩
  have G3 := Lib.hid (Grown.trans G2.out hg)
  have X3 := Lib.hid (R2.out.grow hg)
  have Y3 := Lib.hid hr3
  rw [LB.out] at hc3 ⊢
  clear hg hr3 G2 CB R2
  go_wp2_with fail
  refine (CZ.out _ G3.out).mono ?_
  rintro e w4 ⟨A4, c4, rfl, hc4, hm4, hr4, hg⟩
  have G4 := Lib.hid (Grown.trans G3.out hg)
  have X4 := Lib.hid (X3.out.grow hg)
  have Y4 := Lib.hid (Y3.out.grow hg)
  have Z4 := Lib.hid hr4
  rw [LZ.out] at hc4 ⊢
  clear hg hr4 G3 CZ X3 Y3
  go_wp2_with fail
  refine (CS.out A4 c4 w4 G4.out hc4 hm4 Z4.out).mono ?_
  rintro e w5 ⟨rfl, hg⟩
  have G5 := Lib.hid (Grown.trans G4.out hg)
  have X5 := Lib.hid (X4.out.grow hg)
  have Y5 := Lib.hid (Y4.out.grow hg)
  have Z5 := Lib.hid (Z4.out.grow hg)
  have hsl : ∀ V : World, (Instr.slice 23 (.slice A4 q c4) none (some (.int .i64 (p : Int))) none).run Tryd.prog V = .ok (.slice A4 p c4) V := fun V => cutToL V A4 q c4 p (by omega)
  have hpqi : (p : Int) ≤ q := by omega
  clear hg G4 X4 Y4 Z4 CS hm4
  go_wp2
  try simp only [Act.put]
  refine rest_start (by kernel_rfl) fun v hv => ?_
  have GG := Lib.hid (Grown.trans G5.out hv)
  have PX := Lib.hid (X5.out.grow hv)
  have PY := Lib.hid (Y5.out.grow hv)
  have PZ := Lib.hid ((Z5.out.grow hv).take p)
  clear hv G5 X5 Y5 Z5
  refine rest_take (i := 0) rfl (by kernel_rfl) (by kernel_rfl) (by kernel_rfl) (by rfl) (fun w' hg => by go_simp; try with_reducible rfl) ?_
  try simp only [Act.put, List.setIfInBounds_toArray, List.set_cons_zero, List.set_cons_succ]
  refine rest_take (i := 1) rfl (by kernel_rfl) (by kernel_rfl) (by kernel_rfl) (by rfl) (fun w' hg => by have hcv := conv_at PX.out LA.out c2 w' hg; rw [← HSX.out] at hcv; go_simp; try with_reducible rfl) ?_
  try simp only [Act.put, List.setIfInBounds_toArray, List.set_cons_zero, List.set_cons_succ]
  refine rest_take (i := 2) rfl (by kernel_rfl) (by kernel_rfl) (by kernel_rfl) (by rfl) (fun w' hg => by go_simp; try with_reducible rfl) ?_
  try simp only [Act.put, List.setIfInBounds_toArray, List.set_cons_zero, List.set_cons_succ]
  refine rest_take (i := 3) rfl (by kernel_rfl) (by kernel_rfl) (by kernel_rfl) (by rfl) (fun w' hg => by have hcv := conv_at PY.out LB.out c3 w' hg; rw [← HSY.out] at hcv; go_simp; try with_reducible rfl) ?_
  try simp only [Act.put, List.setIfInBounds_toArray, List.set_cons_zero, List.set_cons_succ]
  refine rest_take (i := 4) rfl (by kernel_rfl) (by kernel_rfl) (by kernel_rfl) (by rfl) (fun w' hg => by have hx1 := HE1.out; go_simp; try with_reducible rfl) ?_
  try simp only [Act.put, List.setIfInBounds_toArray, List.set_cons_zero, List.set_cons_succ]
  refine rest_take (i := 5) rfl (by kernel_rfl) (by kernel_rfl) (by kernel_rfl) (by rfl) (fun w' hg => by go_simp; try with_reducible rfl) ?_
  try simp only [Act.put, List.setIfInBounds_toArray, List.set_cons_zero, List.set_cons_succ]
  refine rest_take (i := 6) rfl (by kernel_rfl) (by kernel_rfl) (by kernel_rfl) (by rfl) (fun w' hg => by go_simp; try with_reducible rfl) ?_
  try simp only [Act.put, List.setIfInBounds_toArray, List.set_cons_zero, List.set_cons_succ]
  refine rest_take (i := 7) rfl (by kernel_rfl) (by kernel_rfl) (by kernel_rfl) (by rfl) (fun w' hg => by have hx1 := HE2.out; go_simp; try with_reducible rfl) ?_
  try simp only [Act.put, List.setIfInBounds_toArray, List.set_cons_zero, List.set_cons_succ]
  refine rest_take (i := 8) rfl (by kernel_rfl) (by kernel_rfl) (by kernel_rfl) (by rfl) (fun w' hg => by go_simp; try with_reducible rfl) ?_
  try simp only [Act.put, List.setIfInBounds_toArray, List.set_cons_zero, List.set_cons_succ]
  refine rest_take (i := 9) rfl (by kernel_rfl) (by kernel_rfl) (by kernel_rfl) (by rfl) (fun w' hg => by go_simp; try with_reducible rfl) ?_
  try simp only [Act.put, List.setIfInBounds_toArray, List.set_cons_zero, List.set_cons_succ]
  refine rest_take (i := 10) rfl (by kernel_rfl) (by kernel_rfl) (by kernel_rfl) (by rfl) (fun w' hg => by go_simp; try with_reducible rfl) ?_
  try simp only [Act.put, List.setIfInBounds_toArray, List.set_cons_zero, List.set_cons_succ]
  refine rest_take (i := 11) rfl (by kernel_rfl) (by kernel_rfl) (by kernel_rfl) (by rfl) (fun w' hg => by go_simp; try with_reducible rfl) ?_
  try simp only [Act.put, List.setIfInBounds_toArray, List.set_cons_zero, List.set_cons_succ]
  refine rest_take (i := 12) rfl (by kernel_rfl) (by kernel_rfl) (by kernel_rfl) (by rfl) (fun w' hg => by go_simp; try with_reducible rfl) ?_
  try simp only [Act.put, List.setIfInBounds_toArray, List.set_cons_zero, List.set_cons_succ]
  refine rest_take (i := 13) rfl (by kernel_rfl) (by kernel_rfl) (by kernel_rfl) (by rfl) (fun w' hg => by go_simp; try with_reducible rfl) ?_
  try simp only [Act.put, List.setIfInBounds_toArray, List.set_cons_zero, List.set_cons_succ]
  refine rest_take (i := 14) rfl (by kernel_rfl) (by kernel_rfl) (by kernel_rfl) (by rfl) (fun w' hg => by go_simp; try with_reducible rfl) ?_
  try simp only [Act.put, List.setIfInBounds_toArray, List.set_cons_zero, List.set_cons_succ]
  refine rest_take (i := 15) rfl (by kernel_rfl) (by kernel_rfl) (by kernel_rfl) (by rfl) (fun w' hg => by go_simp; try with_reducible rfl) ?_
  try simp only [Act.put, List.setIfInBounds_toArray, List.set_cons_zero, List.set_cons_succ]
  refine rest_take (i := 16) rfl (by kernel_rfl) (by kernel_rfl) (by kernel_rfl) (by rfl) (fun w' hg => by go_simp; try with_reducible rfl) ?_
  try simp only [Act.put, List.setIfInBounds_toArray, List.set_cons_zero, List.set_cons_succ]
  refine rest_take (i := 17) rfl (by kernel_rfl) (by kernel_rfl) (by kernel_rfl) (by rfl) (fun w' hg => by go_simp; try with_reducible rfl) ?_
  try simp only [Act.put, List.setIfInBounds_toArray, List.set_cons_zero, List.set_cons_succ]
  refine rest_take (i := 18) rfl (by kernel_rfl) (by kernel_rfl) (by kernel_rfl) (by rfl) (fun w' hg => by go_simp; try with_reducible rfl) ?_
  try simp only [Act.put, List.setIfInBounds_toArray, List.set_cons_zero, List.set_cons_succ]
  refine rest_take (i := 19) rfl (by kernel_rfl) (by kernel_rfl) (by kernel_rfl) (by rfl) (fun w' hg => by go_simp; try with_reducible rfl) ?_
  try simp only [Act.put, List.setIfInBounds_toArray, List.set_cons_zero, List.set_cons_succ]
  refine rest_take (i := 20) rfl (by kernel_rfl) (by kernel_rfl) (by kernel_rfl) (by rfl) (fun w' hg => by go_simp; try with_reducible rfl) ?_
  try simp only [Act.put, List.setIfInBounds_toArray, List.set_cons_zero, List.set_cons_succ]
  refine rest_take (i := 21) rfl (by kernel_rfl) (by kernel_rfl) (by kernel_rfl) (by rfl) (fun w' hg => by have hcv := conv_at PZ.out LP.out c4 w' hg; rw [← HSZ.out] at hcv; go_simp; try with_reducible rfl) ?_
  try simp only [Act.put, List.setIfInBounds_toArray, List.set_cons_zero, List.set_cons_succ]
  refine rest_take (i := 22) rfl (by kernel_rfl) (by kernel_rfl) (by kernel_rfl) (by rfl) (fun w' hg => by go_simp; try with_reducible rfl) ?_
  try simp only [Act.put, List.setIfInBounds_toArray, List.set_cons_zero, List.set_cons_succ]
  refine rest_take (i := 23) rfl (by kernel_rfl) (by kernel_rfl) (by kernel_rfl) (by rfl) (fun w' hg => by have hcv := conv_at PX.out LA.out c2 w' hg; rw [← HSX.out] at hcv; go_simp; try with_reducible rfl) ?_
  try simp only [Act.put, List.setIfInBounds_toArray, List.set_cons_zero, List.set_cons_succ]
  refine rest_take (i := 24) rfl (by kernel_rfl) (by kernel_rfl) (by kernel_rfl) (by rfl) (fun w' hg => by go_simp; try with_reducible rfl) ?_
  try simp only [Act.put, List.setIfInBounds_toArray, List.set_cons_zero, List.set_cons_succ]
  refine rest_take (i := 25) rfl (by kernel_rfl) (by kernel_rfl) (by kernel_rfl) (by rfl) (fun w' hg => by go_simp; try with_reducible rfl) ?_
  try simp only [Act.put, List.setIfInBounds_toArray, List.set_cons_zero, List.set_cons_succ]
  refine rest_take (i := 26) rfl (by kernel_rfl) (by kernel_rfl) (by kernel_rfl) (by rfl) (fun w' hg => by go_simp; try with_reducible rfl) ?_
  try simp only [Act.put, List.setIfInBounds_toArray, List.set_cons_zero, List.set_cons_succ]
  refine rest_take (i := 27) rfl (by kernel_rfl) (by kernel_rfl) (by kernel_rfl) (by rfl) (fun w' hg => by go_simp; try with_reducible rfl) ?_
  try simp only [Act.put, List.setIfInBounds_toArray, List.set_cons_zero, List.set_cons_succ]
  refine rest_take (i := 28) rfl (by kernel_rfl) (by kernel_rfl) (by kernel_rfl) (by rfl) (fun w' hg => by go_simp; try with_reducible rfl) ?_
  try simp only [Act.put, List.setIfInBounds_toArray, List.set_cons_zero, List.set_cons_succ]
  refine rest_take (i := 29) rfl (by kernel_rfl) (by kernel_rfl) (by kernel_rfl) (by rfl) (fun w' hg => by go_simp; try with_reducible rfl) ?_
  try simp only [Act.put, List.setIfInBounds_toArray, List.set_cons_zero, List.set_cons_succ]
  refine rest_take (i := 30) rfl (by kernel_rfl) (by kernel_rfl) (by kernel_rfl) (by rfl) (fun w' hg => by go_simp; try with_reducible rfl) ?_
  try simp only [Act.put, List.setIfInBounds_toArray, List.set_cons_zero, List.set_cons_succ]
  refine rest_take (i := 31) rfl (by kernel_rfl) (by kernel_rfl) (by kernel_rfl) (by rfl) (fun w' hg => by go_simp; try with_reducible rfl) ?_
  try simp only [Act.put, List.setIfInBounds_toArray, List.set_cons_zero, List.set_cons_succ]
  refine rest_take (i := 32) rfl (by kernel_rfl) (by kernel_rfl) (by kernel_rfl) (by rfl) (fun w' hg => by go_simp; try with_reducible rfl) ?_
  try simp only [Act.put, List.setIfInBounds_toArray, List.set_cons_zero, List.set_cons_succ]
  refine rest_take (i := 33) rfl (by kernel_rfl) (by kernel_rfl) (by kernel_rfl) (by rfl) (fun w' hg => by go_simp; try with_reducible rfl) ?_
  try simp only [Act.put, List.setIfInBounds_toArray, List.set_cons_zero, List.set_cons_succ]
  refine rest_take (i := 34) rfl (by kernel_rfl) (by kernel_rfl) (by kernel_rfl) (by rfl) (fun w' hg => by go_simp; try with_reducible rfl) ?_
  try simp only [Act.put, List.setIfInBounds_toArray, List.set_cons_zero, List.set_cons_succ]
  refine rest_done (by kernel_rfl) ?_
  go_wp2
  go_ret
  exact ⟨rfl, GG.out⟩

set_option maxHeartbeats 4000000 in
theorem apart_no (HF : FillOk) (HS : StripOk) (a b : List UInt8) (n m : Nat) (w : World) (hU : Un w) (hn : a.length = n) (hm : b.length = m) (hl : n ≤ maxLen) (hl2 : m ≤ maxLen) (h : nameB a = false ∨ nameB b = false) :
    Calls Tryd.prog 6 #[.string { data := a.toArray }, .string { data := b.toArray }] w (Says w true) := by
  have HA := Lib.hid (fun V (g : Grown w V) => awakeP HF HS V (hU.grow g))
  obtain ⟨p, hp⟩ : ∃ p, nameB a = p := ⟨_, rfl⟩
  obtain ⟨q, hq⟩ : ∃ q, nameB b = q := ⟨_, rfl⟩
  have NA := Lib.hid (fun V => refName_any a n V hn hl)
  have NB := Lib.hid (fun V => refName_any b m V hm hl2)
  rw [hp] at NA h
  rw [hq] at NB h
  clear HF HS hp hq
  cases p with
  | false =>
    clear h
    go_enter Tryd.func6, Tryd.ntmps6
    go_wp2_with fail
    refine (HA.out _ (Grown.refl _)).mono ?_
    rintro e w1 ⟨rfl, hg1⟩
    have G1 := Lib.hid (show Grown w w1 from hg1)
    clear hg1
    go_wp2_with fail
    refine (NA.out _).mono ?_
    rintro e w2 ⟨rfl, rfl⟩
    go_wp2_with fail
    refine (HA.out _ G1.out).mono ?_
    rintro e w2 ⟨rfl, hg1⟩
    have G2 := Lib.hid (Grown.trans G1.out hg1)
    clear hg1 G1
    go_wp2
    go_ret
    exact ⟨rfl, G2.out⟩
  | true =>
    obtain rfl : q = false := by simpa using h
    clear h
    go_enter Tryd.func6, Tryd.ntmps6
    go_wp2_with fail
    refine (HA.out _ (Grown.refl _)).mono ?_
    rintro e w1 ⟨rfl, hg1⟩
    have G1 := Lib.hid (show Grown w w1 from hg1)
    clear hg1
    go_wp2_with fail
    refine (NA.out _).mono ?_
    rintro e w2 ⟨rfl, rfl⟩
    go_wp2_with fail
    refine (NB.out _).mono ?_
    rintro e w2 ⟨rfl, rfl⟩
    go_wp2_with fail
    refine (HA.out _ G1.out).mono ?_
    rintro e w2 ⟨rfl, hg1⟩
    have G2 := Lib.hid (Grown.trans G1.out hg1)
    clear hg1 G1
    go_wp2
    go_ret
    exact ⟨rfl, G2.out⟩

theorem apart_walk (HF : FillOk) (HS : StripOk) (a b : List UInt8) (n m : Nat) (w : World) (hU : Un w) (hn : a.length = n) (hm : b.length = m) (hl : n ≤ maxLen) (hl2 : m ≤ maxLen) :
    Calls Tryd.prog 6 #[.string { data := a.toArray }, .string { data := b.toArray }] w (Says w true) := by
  cases ha : nameB a with
  | false => exact apart_no HF HS a b n m w hU hn hm hl hl2 (.inl ha)
  | true =>
    cases hb : nameB b with
    | false => exact apart_no HF HS a b n m w hU hn hm hl hl2 (.inr hb)
    | true => exact apart_yes HF HS a b n m w hU hn hm ha hb
end Go.Proofs.YtpfhpopfakfjhaaDoor.S10
