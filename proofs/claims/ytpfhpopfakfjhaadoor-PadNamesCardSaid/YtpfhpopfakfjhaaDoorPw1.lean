/-
  PadNames: the walk, out of the program's contracts.
-/
import Derived.Test.YtpfhpopfakfjhaaDoorPaC
namespace Go.Proofs.YtpfhpopfakfjhaaDoor.S10
open Go.RowKit
set_option linter.unusedVariables false
set_option linter.unusedSimpArgs false

set_option maxHeartbeats 4000000 in
theorem names_walk (HN : NameOk) (HZ : SizeOk) (HF : FillOk) (HS : StripOk) (s : List UInt8) (n : Nat) (u m : Int) (w : World) (hU : Un w) (hn : s.length = n) (hl : n ≤ maxLen) (hu1 : -9223372036854775808 ≤ u) (hu2 : u < 9223372036854775808) (hm1 : -9223372036854775808 ≤ m) (hm2 : m < 9223372036854775808) :
    Calls Tryd.prog 3 #[.string { data := s.toArray }, .int .i64 u, .int .i64 m] w (Says w true) := by
  have Hn := Lib.hid hn
  have hl : n ≤ 9223372036854775807 := hl
  have HA := Lib.hid (fun V (g : Grown w V) => awakeP HF HS V (hU.grow g))
  by_cases h1 : 300 < n
  · clear HN HZ HF HS
    have h1i : 300 < (n : Int) := by omega
    go_enter Tryd.func3, Tryd.ntmps3
    go_wp2_with fail
    refine (HA.out _ (Grown.refl _)).mono ?_
    rintro e w1 ⟨rfl, hg1⟩
    have G1 := Lib.hid (show Grown w w1 from hg1)
    clear hg1
    go_wp2_with fail
    refine (HA.out _ G1.out).mono ?_
    rintro e w2 ⟨rfl, hg2⟩
    have G2 := Lib.hid (Grown.trans G1.out hg2)
    clear hg2 G1
    go_wp2
    go_ret
    exact ⟨rfl, G2.out⟩
  have h1i : ¬ 300 < (n : Int) := by omega
  obtain ⟨l, hlf⟩ : ∃ l, fillI s u = l := ⟨_, rfl⟩
  obtain ⟨o, ho⟩ : ∃ o, fillB s u = o := ⟨_, rfl⟩
  obtain ⟨y, hy⟩ : ∃ y, stripL l = y := ⟨_, rfl⟩
  obtain ⟨q, hq⟩ : ∃ q, nameB s = q := ⟨_, rfl⟩
  obtain ⟨z, hz⟩ : ∃ z, sizeI m u = z := ⟨_, rfl⟩
  have CF := Lib.hid (fun V (g : Grown w V) => HF s n u V hn (by omega) hu1 hu2 (hU.grow g))
  have CX := Lib.hid (fun V => refFill_any s n u V hn (by omega) hu1 hu2)
  have CN := Lib.hid (fun V => HN s n V hn (by omega))
  have CM := Lib.hid (fun V => refName_any s n V hn (by unfold maxLen; omega))
  have CZ := Lib.hid (fun V (g : Grown w V) => HZ m u V hm1 hm2 hu1 hu2 (hU.grow g))
  have CY := Lib.hid (fun V => refSize_any m u V hm1 hm2 hu1 hu2)
  have hst := strip_fillI s u
  have hlen := fill_len s u
  rw [hlf, ho] at hst CF CX
  rw [hlf] at hlen
  rw [hy] at hst
  rw [hq] at CN CM
  rw [hz] at CZ CY
  have CS := Lib.hid (fun A c V (g : Grown w V) (h1 : l.length ≤ c) h2 h3 => HS A l.length c l V rfl h1 h2 h3 (by omega) (hU.grow g))
  rw [hy, hst.1] at CS
  have HY := Lib.hid hst.2
  obtain ⟨ln, hln⟩ : ∃ n, l.length = n := ⟨_, rfl⟩
  have HLN := Lib.hid hln
  have hln2 : ln ≤ 128 := by omega
  clear HN HZ HF HS hst hy hlf ho hq hz h1 hlen hln
  cases o with
  | false =>
    go_enter Tryd.func3, Tryd.ntmps3
    go_wp2_with fail
    refine (HA.out _ (Grown.refl _)).mono ?_
    rintro e w1 ⟨rfl, hg1⟩
    have G1 := Lib.hid (show Grown w w1 from hg1)
    clear hg1
    go_wp2_with fail
    refine (CF.out _ G1.out).mono ?_
    rintro e w2 ⟨A, c, rfl, hc, hm, hr, hg⟩
    have G2 := Lib.hid (Grown.trans G1.out hg)
    have R2 := Lib.hid hr
    have HC := Lib.hid (show l.length ≤ c ∧ c ≤ maxLen from ⟨hc, hm⟩)
    clear hg hr G1 CF hc hm
    rw [HLN.out]
    go_wp2_with fail
    refine (CX.out _).mono ?_
    rintro e w3 ⟨rfl, rfl⟩
    go_wp2_with fail
    refine (CN.out _).mono ?_
    rintro e w3 ⟨rfl, hg⟩
    have G3 := Lib.hid (Grown.trans G2.out hg)
    have R3 := Lib.hid (R2.out.grow hg)
    clear hg G2 R2 CN CX
    go_wp2_with fail
    refine (CM.out _).mono ?_
    rintro e w4 ⟨rfl, rfl⟩
    go_wp2_with fail
    refine (CZ.out _ G3.out).mono ?_
    rintro e w4 ⟨rfl, hg⟩
    have G4 := Lib.hid (Grown.trans G3.out hg)
    have R4 := Lib.hid (R3.out.grow hg)
    clear hg G3 R3 CM CZ
    go_wp2_with fail
    refine (CY.out _).mono ?_
    rintro e w5 ⟨rfl, rfl⟩
    have hcv := conv_at R4.out HLN.out c w4 (Grown.refl _)
    clear CY
    go_wp2_with fail
    refine (HLN.out ▸ CS.out A c w4 G4.out HC.out.1 HC.out.2 R4.out).mono ?_
    rintro e w5 ⟨rfl, hg⟩
    have G5 := Lib.hid (Grown.trans G4.out hg)
    clear hg G4 R4 CS hcv HC
    go_wp2
    go_ret
    exact ⟨rfl, G5.out⟩
  | true =>
    go_enter Tryd.func3, Tryd.ntmps3
    go_wp2_with fail
    refine (HA.out _ (Grown.refl _)).mono ?_
    rintro e w1 ⟨rfl, hg1⟩
    have G1 := Lib.hid (show Grown w w1 from hg1)
    clear hg1
    go_wp2_with fail
    refine (CF.out _ G1.out).mono ?_
    rintro e w2 ⟨A, c, rfl, hc, hm, hr, hg⟩
    have G2 := Lib.hid (Grown.trans G1.out hg)
    have R2 := Lib.hid hr
    have HC := Lib.hid (show l.length ≤ c ∧ c ≤ maxLen from ⟨hc, hm⟩)
    clear hg hr G1 CF hc hm
    rw [HLN.out]
    go_wp2_with fail
    refine (CX.out _).mono ?_
    rintro e w3 ⟨rfl, rfl⟩
    go_wp2_with fail
    refine (CN.out _).mono ?_
    rintro e w3 ⟨rfl, hg⟩
    have G3 := Lib.hid (Grown.trans G2.out hg)
    have R3 := Lib.hid (R2.out.grow hg)
    clear hg G2 R2 CN CX
    go_wp2_with fail
    refine (CM.out _).mono ?_
    rintro e w4 ⟨rfl, rfl⟩
    go_wp2_with fail
    refine (CZ.out _ G3.out).mono ?_
    rintro e w4 ⟨rfl, hg⟩
    have G4 := Lib.hid (Grown.trans G3.out hg)
    have R4 := Lib.hid (R3.out.grow hg)
    clear hg G3 R3 CM CZ
    go_wp2_with fail
    refine (CY.out _).mono ?_
    rintro e w5 ⟨rfl, rfl⟩
    have hcv := conv_at R4.out HLN.out c w4 (Grown.refl _)
    clear CY
    go_wp2_with fail
    refine (HLN.out ▸ CS.out A c w4 G4.out HC.out.1 HC.out.2 R4.out).mono ?_
    rintro e w5 ⟨rfl, hg⟩
    have G5 := Lib.hid (Grown.trans G4.out hg)
    clear hg G4 R4 CS hcv HC
    have hy : (y == s) = true := by rw [HY.out trivial]; simp
    go_wp2
    go_ret
    exact ⟨rfl, G5.out⟩
end Go.Proofs.YtpfhpopfakfjhaaDoor.S10
