/-
  PadSizes: the walk, out of the program's contracts.
-/
import Derived.Test.YtpfhpopfakfjhaaDoorPaC
namespace Go.Proofs.YtpfhpopfakfjhaaDoor.S10
open Go.RowKit
set_option linter.unusedVariables false
set_option linter.unusedSimpArgs false

set_option maxHeartbeats 4000000 in
theorem sizes_16 (HZ : SizeOk) (HF : FillOk) (HS : StripOk) (a b : List UInt8) (n m : Nat) (w : World) (hU : Un w) (hn : a.length = n) (hm : b.length = m) (ha : nameB a = true) (hb : nameB b = true) :
    Calls Tryd.prog 5 #[.string { data := a.toArray }, .string { data := b.toArray }, .bool false] w (Says w true) := by
  have Hn := Lib.hid hn
  have Hm := Lib.hid hm
  have hna := name_len ha
  have hnb := name_len hb
  rw [hn] at hna
  rw [hm] at hnb
  obtain ⟨hn1, hn2⟩ := hna
  obtain ⟨hm1, hm2⟩ := hnb
  have HA := Lib.hid (fun V (g : Grown w V) => awakeP HF HS V (hU.grow g))
  have ea : fillB a 16 = true ∧ fillI a 16 = fillL a 16 := by
    have h : fillB a 16 = true := by unfold fillB; rw [ha]; decide
    exact ⟨h, by unfold fillI; rw [if_pos h]; rfl⟩
  have eb : fillB b 16 = true ∧ fillI b 16 = fillL b 16 := by
    have h : fillB b 16 = true := by unfold fillB; rw [hb]; decide
    exact ⟨h, by unfold fillI; rw [if_pos h]; rfl⟩
  have CA := Lib.hid (fun V (g : Grown w V) => HF a n 16 V hn (by omega) (by omega) (by omega) (hU.grow g))
  have CB := Lib.hid (fun V (g : Grown w V) => HF b m 16 V hm (by omega) (by omega) (by omega) (hU.grow g))
  rw [ea.1, ea.2] at CA
  rw [eb.1, eb.2] at CB
  have la := fill_len16 a (by omega)
  have lb := fill_len16 b (by omega)
  rw [hn] at la
  rw [hm] at lb
  obtain ⟨p, hp⟩ : ∃ p, upN n 16 = p := ⟨_, rfl⟩
  obtain ⟨q, hq⟩ : ∃ q, upN m 16 = q := ⟨_, rfl⟩
  have hup := up_16 n hn1
  have hum := up_16 m hm1
  have hmn := fun h : n ≤ m => up_mono16 n m h
  have CZ := Lib.hid (fun V (g : Grown w V) => HZ n 16 V (by omega) (by omega) (by omega) (by omega) (hU.grow g))
  rw [show sizeI n 16 = (p : Nat) by unfold sizeI; rw [if_pos ⟨by omega, by omega⟩, ← hp]; rfl] at CZ
  rw [hp] at la hup
  rw [hq] at lb hum
  rw [hp, hq] at hmn
  obtain ⟨x, hx⟩ : ∃ x, fillL a 16 = x := ⟨_, rfl⟩
  obtain ⟨y, hy⟩ : ∃ y, fillL b 16 = y := ⟨_, rfl⟩
  rw [hx] at CA la
  rw [hy] at CB lb
  have LA := Lib.hid la
  have LB := Lib.hid lb
  have NA := Lib.hid (fun V => refName_any a n V hn (by unfold maxLen; omega))
  have NB := Lib.hid (fun V => refName_any b m V hm (by unfold maxLen; omega))
  rw [ha] at NA
  rw [hb] at NB
  have hup1 : n ≤ p := hup.1
  have hup2 : p < n + 16 := hup.2.1
  have hord : n ≤ m → p ≤ q := hmn
  clear HZ HF HS ea eb hx hy hp hq la lb ha hb hup hum hmn
  go_enter Tryd.func5, Tryd.ntmps5
  go_wp2_with fail
  refine (HA.out _ (Grown.refl _)).mono ?_
  rintro e w1 ⟨rfl, hg1⟩
  have G1 := Lib.hid (show Grown w w1 from hg1)
  clear hg1
  go_wp2_with fail
  refine (NA.out _).mono ?_
  rintro e w2 ⟨rfl, rfl⟩
  go_wp2_with fail
  refine (NB.out _).mono ?_
  rintro e w2 ⟨rfl, rfl⟩
  clear NA NB
  go_wp2_with fail
  refine (CA.out _ G1.out).mono ?_
  rintro e w2 ⟨A2, c2, rfl, _, _, _, hg⟩
  have G2 := Lib.hid (Grown.trans G1.out hg)
  rw [LA.out]
  clear hg G1 CA
  go_wp2_with fail
  refine (CB.out _ G2.out).mono ?_
  rintro e w3 ⟨A3, c3, rfl, _, _, _, hg⟩
  have G3 := Lib.hid (Grown.trans G2.out hg)
  rw [LB.out]
  clear hg G2 CB
  go_wp2_with fail
  refine (CZ.out _ G3.out).mono ?_
  rintro e w4 ⟨rfl, hg⟩
  have G4 := Lib.hid (Grown.trans G3.out hg)
  clear hg G3 CZ
  have i1 : (n : Int) ≤ p := by omega
  have i2 : (p : Int) - n < 16 := by omega
  by_cases hlt : m < n
  · have i3 : (m : Int) < n := by omega
    clear hlt hord
    go_wp2
    go_ret
    exact ⟨rfl, G4.out⟩
  · have i3 : ¬ (m : Int) < n := by omega
    have i4 : (p : Int) ≤ q := by have := hord (by omega); omega
    clear hlt hord
    go_wp2
    go_ret
    exact ⟨rfl, G4.out⟩

set_option maxHeartbeats 4000000 in
theorem sizes_32 (HZ : SizeOk) (HF : FillOk) (HS : StripOk) (a b : List UInt8) (n m : Nat) (w : World) (hU : Un w) (hn : a.length = n) (hm : b.length = m) (ha : nameB a = true) (hb : nameB b = true) :
    Calls Tryd.prog 5 #[.string { data := a.toArray }, .string { data := b.toArray }, .bool true] w (Says w true) := by
  have Hn := Lib.hid hn
  have Hm := Lib.hid hm
  have hna := name_len ha
  have hnb := name_len hb
  rw [hn] at hna
  rw [hm] at hnb
  obtain ⟨hn1, hn2⟩ := hna
  obtain ⟨hm1, hm2⟩ := hnb
  have HA := Lib.hid (fun V (g : Grown w V) => awakeP HF HS V (hU.grow g))
  have ea : fillB a 32 = true ∧ fillI a 32 = fillL a 32 := by
    have h : fillB a 32 = true := by unfold fillB; rw [ha]; decide
    exact ⟨h, by unfold fillI; rw [if_pos h]; rfl⟩
  have eb : fillB b 32 = true ∧ fillI b 32 = fillL b 32 := by
    have h : fillB b 32 = true := by unfold fillB; rw [hb]; decide
    exact ⟨h, by unfold fillI; rw [if_pos h]; rfl⟩
  have CA := Lib.hid (fun V (g : Grown w V) => HF a n 32 V hn (by omega) (by omega) (by omega) (hU.grow g))
  have CB := Lib.hid (fun V (g : Grown w V) => HF b m 32 V hm (by omega) (by omega) (by omega) (hU.grow g))
  rw [ea.1, ea.2] at CA
  rw [eb.1, eb.2] at CB
  have la := fill_len32 a (by omega)
  have lb := fill_len32 b (by omega)
  rw [hn] at la
  rw [hm] at lb
  obtain ⟨p, hp⟩ : ∃ p, upN n 32 = p := ⟨_, rfl⟩
  obtain ⟨q, hq⟩ : ∃ q, upN m 32 = q := ⟨_, rfl⟩
  have hup := up_32 n hn1
  have hum := up_32 m hm1
  have hmn := fun h : n ≤ m => up_mono32 n m h
  have CZ := Lib.hid (fun V (g : Grown w V) => HZ n 32 V (by omega) (by omega) (by omega) (by omega) (hU.grow g))
  rw [show sizeI n 32 = (p : Nat) by unfold sizeI; rw [if_pos ⟨by omega, by omega⟩, ← hp]; rfl] at CZ
  rw [hp] at la hup
  rw [hq] at lb hum
  rw [hp, hq] at hmn
  obtain ⟨x, hx⟩ : ∃ x, fillL a 32 = x := ⟨_, rfl⟩
  obtain ⟨y, hy⟩ : ∃ y, fillL b 32 = y := ⟨_, rfl⟩
  rw [hx] at CA la
  rw [hy] at CB lb
  have LA := Lib.hid la
  have LB := Lib.hid lb
  have NA := Lib.hid (fun V => refName_any a n V hn (by unfold maxLen; omega))
  have NB := Lib.hid (fun V => refName_any b m V hm (by unfold maxLen; omega))
  rw [ha] at NA
  rw [hb] at NB
  have hup1 : n ≤ p := hup.1
  have hup2 : p < n + 32 := hup.2.1
  have hord : n ≤ m → p ≤ q := hmn
  clear HZ HF HS ea eb hx hy hp hq la lb ha hb hup hum hmn
  go_enter Tryd.func5, Tryd.ntmps5
  go_wp2_with fail
  refine (HA.out _ (Grown.refl _)).mono ?_
  rintro e w1 ⟨rfl, hg1⟩
  have G1 := Lib.hid (show Grown w w1 from hg1)
  clear hg1
  go_wp2_with fail
  refine (NA.out _).mono ?_
  rintro e w2 ⟨rfl, rfl⟩
  go_wp2_with fail
  refine (NB.out _).mono ?_
  rintro e w2 ⟨rfl, rfl⟩
  clear NA NB
  go_wp2_with fail
  refine (CA.out _ G1.out).mono ?_
  rintro e w2 ⟨A2, c2, rfl, _, _, _, hg⟩
  have G2 := Lib.hid (Grown.trans G1.out hg)
  rw [LA.out]
  clear hg G1 CA
  go_wp2_with fail
  refine (CB.out _ G2.out).mono ?_
  rintro e w3 ⟨A3, c3, rfl, _, _, _, hg⟩
  have G3 := Lib.hid (Grown.trans G2.out hg)
  rw [LB.out]
  clear hg G2 CB
  go_wp2_with fail
  refine (CZ.out _ G3.out).mono ?_
  rintro e w4 ⟨rfl, hg⟩
  have G4 := Lib.hid (Grown.trans G3.out hg)
  clear hg G3 CZ
  have i1 : (n : Int) ≤ p := by omega
  have i2 : (p : Int) - n < 32 := by omega
  by_cases hlt : m < n
  · have i3 : (m : Int) < n := by omega
    clear hlt hord
    go_wp2
    go_ret
    exact ⟨rfl, G4.out⟩
  · have i3 : ¬ (m : Int) < n := by omega
    have i4 : (p : Int) ≤ q := by have := hord (by omega); omega
    clear hlt hord
    go_wp2
    go_ret
    exact ⟨rfl, G4.out⟩

set_option maxHeartbeats 4000000 in
theorem sizes_no (HF : FillOk) (HS : StripOk) (a b : List UInt8) (n m : Nat) (z : Bool) (w : World) (hU : Un w) (hn : a.length = n) (hm : b.length = m) (hl : n ≤ maxLen) (hl2 : m ≤ maxLen) (h : nameB a = false ∨ nameB b = false) :
    Calls Tryd.prog 5 #[.string { data := a.toArray }, .string { data := b.toArray }, .bool z] w (Says w true) := by
  have HA := Lib.hid (fun V (g : Grown w V) => awakeP HF HS V (hU.grow g))
  obtain ⟨p, hp⟩ : ∃ p, nameB a = p := ⟨_, rfl⟩
  obtain ⟨q, hq⟩ : ∃ q, nameB b = q := ⟨_, rfl⟩
  have NA := Lib.hid (fun V => refName_any a n V hn hl)
  have NB := Lib.hid (fun V => refName_any b m V hm hl2)
  rw [hp] at NA h
  rw [hq] at NB h
  clear HF HS hp hq
  cases p with
  | false =>
    clear h
    go_enter Tryd.func5, Tryd.ntmps5
    go_wp2_with fail
    refine (HA.out _ (Grown.refl _)).mono ?_
    rintro e w1 ⟨rfl, hg1⟩
    have G1 := Lib.hid (show Grown w w1 from hg1)
    clear hg1
    go_wp2_with fail
    refine (NA.out _).mono ?_
    rintro e w2 ⟨rfl, rfl⟩
    go_wp2_with fail
    refine (HA.out _ G1.out).mono ?_
    rintro e w2 ⟨rfl, hg1⟩
    have G2 := Lib.hid (Grown.trans G1.out hg1)
    clear hg1 G1
    go_wp2
    go_ret
    exact ⟨rfl, G2.out⟩
  | true =>
    obtain rfl : q = false := by simpa using h
    clear h
    go_enter Tryd.func5, Tryd.ntmps5
    go_wp2_with fail
    refine (HA.out _ (Grown.refl _)).mono ?_
    rintro e w1 ⟨rfl, hg1⟩
    have G1 := Lib.hid (show Grown w w1 from hg1)
    clear hg1
    go_wp2_with fail
    refine (NA.out _).mono ?_
    rintro e w2 ⟨rfl, rfl⟩
    go_wp2_with fail
    refine (NB.out _).mono ?_
    rintro e w2 ⟨rfl, rfl⟩
    go_wp2_with fail
    refine (HA.out _ G1.out).mono ?_
    rintro e w2 ⟨rfl, hg1⟩
    have G2 := Lib.hid (Grown.trans G1.out hg1)
    clear hg1 G1
    go_wp2
    go_ret
    exact ⟨rfl, G2.out⟩

theorem sizes_walk (HZ : SizeOk) (HF : FillOk) (HS : StripOk) (a b : List UInt8) (n m : Nat) (z : Bool) (w : World) (hU : Un w) (hn : a.length = n) (hm : b.length = m) (hl : n ≤ maxLen) (hl2 : m ≤ maxLen) :
    Calls Tryd.prog 5 #[.string { data := a.toArray }, .string { data := b.toArray }, .bool z] w (Says w true) := by
  cases ha : nameB a with
  | false => exact sizes_no HF HS a b n m z w hU hn hm hl hl2 (.inl ha)
  | true =>
    cases hb : nameB b with
    | false => exact sizes_no HF HS a b n m z w hU hn hm hl hl2 (.inr hb)
    | true =>
      cases z with
      | false => exact sizes_16 HZ HF HS a b n m w hU hn hm ha hb
      | true => exact sizes_32 HZ HF HS a b n m w hU hn hm ha hb
end Go.Proofs.YtpfhpopfakfjhaaDoor.S10
