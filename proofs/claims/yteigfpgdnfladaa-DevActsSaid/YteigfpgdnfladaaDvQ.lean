/-
  The laws of dev: DevKeeps' walk (a draft: not clean yet).
-/
import Derived.Test.YteigfpgdnfladaaDvP
namespace Go.Proofs.Yteigfpgdnfladaa.S13
open Cf
open Go.RowKit
set_option linter.unusedVariables false
set_option linter.unusedSimpArgs false
section
variable {D : DTab}
set_option maxHeartbeats 2000000 in
theorem keeps_walk (K : DevOk D) (A : Option Addr) (n c : Nat) (at_ : List UInt8) (A2 : Option Addr) (n2 c2 : Nat) (keeps : List (List Int)) (w : World) (hA : Rd w w.heap.size A at_) (hn : at_.length = n) (hnc : n ≤ c) (hA2 : RdNs w w.heap.size A2 keeps) (hn2 : keeps.length = n2) :
    Calls Try.prog 4 #[.slice A n c, .slice A2 n2 c2] w fun e w' => e = .returned (.bool true) ∧ Below w.heap.size w w' := by
  have KK := Lib.hid K
  have HA := Lib.hid hA
  have HN := Lib.hid hn
  have HA2 := Lib.hid hA2
  have HN2 := Lib.hid hn2
  clear K hA hn hA2 hn2
  by_cases h1 : (n : Int) > 20
  · go_enter Try.func4, Try.ntmps4
    go_wp2_with fail
    refine (awakeD KK.out _).mono ?_
    rintro e w1 ⟨rfl, hg1⟩
    have G1 := Lib.hid hg1
    clear hg1
    go_wp2_with fail
    refine (awakeD KK.out _).mono ?_
    rintro e w2 ⟨rfl, hg2⟩
    have G2 := Lib.hid (Grown.trans G1.out hg2)
    clear hg2
    go_wp2
    go_ret
    exact ⟨rfl, G2.out⟩
  by_cases h2 : (n2 : Int) > 5
  · go_enter Try.func4, Try.ntmps4
    go_wp2_with fail
    refine (awakeD KK.out _).mono ?_
    rintro e w1 ⟨rfl, hg1⟩
    have G1 := Lib.hid hg1
    clear hg1
    go_wp2_with fail
    refine (awakeD KK.out _).mono ?_
    rintro e w2 ⟨rfl, hg2⟩
    have G2 := Lib.hid (Grown.trans G1.out hg2)
    clear hg2
    go_wp2
    go_ret
    exact ⟨rfl, G2.out⟩
  go_enter Try.func4, Try.ntmps4
  go_wp2_with fail
  refine (awakeD KK.out _).mono ?_
  rintro e w1 ⟨rfl, hg1⟩
  have GW := Lib.hid hg1
  clear hg1
  go_wp2_with fail
  refine (KK.out.new w1 8 (by omega) (by omega)).mono ?_
  rintro e w2 ⟨G, F, rfl, hd, hF, hg⟩
  have Z2 := Lib.hid (show DSince D w1 w2 G F (kW 0) from ⟨hd, hF, hg⟩)
  clear hd hF hg
  go_wp2_with fail
  go_loopw [7] (fun v7 wr => ∃ (i : Nat) (F : Nat → Prop), v7 = .int .i64 (i : Int) ∧ i ≤ 8 ∧ Hid (DSince D w1 wr G F (kW i))) (fun v7 _ => 8 - (intOf v7).toNat)
  case atStart => exact ⟨0, F, rfl, by omega, Z2.out⟩
  case round =>
    clear Z2
    obtain ⟨i, F1, rfl, hi8, HZ⟩ := hrel
    by_cases hlt : i < 8
    · have bi : (i : Int) < 8 := by omega
      obtain ⟨x, hx⟩ : ∃ x, x = UInt8.ofNat i := ⟨_, rfl⟩
      have hw8 : IntKind.u8.wrap (i : Int) = (x.toNat : Int) := by
        rw [hx, UInt8.toNat_ofNat']
        have e : IntKind.u8.wrap (i : Int) = (i : Int) % 256 := rfl
        rw [e]
        omega
      have HX := Lib.hid (show [7, x] = p7 i by rw [hx]; rfl)
      clear hx
      go_wp2_with fail
      refine (wr1 KK.out HZ.out (ok_kW i (by omega)) (by omega) (by show (List.replicate 8 z512).length ≤ 100; rw [List.length_replicate]; omega) (i : Int) [7, x] 2 (0, 0) rfl (by omega)).mono ?_
      rw [HX.out, kW_next i hlt]
      rintro e w3 ⟨rfl, F2, hz⟩
      have Z3 := Lib.hid hz
      clear hz HZ
      go_wp2
      exact ⟨⟨i + 1, F2, by simp, by omega, Z3.out⟩, by simp [intOf]; omega⟩
    · have bi : ¬ (i : Int) < 8 := by omega
      obtain rfl : i = 8 := by omega
      have N3 := Lib.hid (ok_kW 8 (Nat.le_refl _))
      go_wp2_with fail
      refine (KK.out.flush wr G F1 (kW 8) 8 HZ.out.1 N3.out (by omega) (by decide +kernel)).mono ?_
      rintro e w3 ⟨rfl, hd⟩
      obtain ⟨F3, hz3⟩ := HZ.out.step hd
      have Z3 := Lib.hid hz3
      have N4 := Lib.hid (ok_flush N3.out)
      clear hz3 hd HZ
      go_wp2_with fail
      refine (KK.out.raise w3 G F3 _ 8 Z3.out.1 N4.out).mono ?_
      rintro e w4 ⟨rfl, hd⟩
      obtain ⟨F4, hz4⟩ := Z3.out.step hd
      have Z4 := Lib.hid (show DSince D w1 w4 G F4 kF from hz4)
      have N5 := Lib.hid (show Ok kF 8 from ok_raise N4.out)
      clear hz4 hd Z3 N3 N4
      go_wp2_with fail
      have T0 := Lib.hid (show DT D w1 (w4.alloc (.cells #[.bool false, .bool false, .bool false, .bool false, .bool false, .bool false, .bool false, .bool false] 52)) G F4 kF w4.heap.size (List.replicate 8 false) from
        ⟨Z4.out.grow KK.out (alloc_below w4 _), heap_alloc_new w4 _, fun hf => by have := KK.out.foot _ _ _ _ Z4.out.1 _ hf; omega, Z4.out.2.2.size⟩)
      clear Z4
      obtain ⟨g, hg⟩ : ∃ g, g = w4.heap.size := ⟨_, rfl⟩
      rw [← hg] at T0 ⊢
      clear hg
      generalize w4.alloc _ = w5 at T0 ⊢
      go_loopw [9] (fun v9 wr => ∃ (i : Nat) (F : Nat → Prop) (st : Dv) (tu : List Bool), v9 = .int .i64 (i : Int) ∧ i ≤ n ∧ Hid (tu.length = 8) ∧ Hid (Kp st tu) ∧ Hid (Ok st (8 + i)) ∧ Hid (DT D w1 wr G F st g tu)) (fun v9 _ => n - (intOf v9).toNat)
      case atStart => exact ⟨0, F4, kF, _, rfl, Nat.zero_le _, List.length_replicate, kp_start, N5.out, T0.out⟩
      case round =>
        clear T0 N5
        obtain ⟨i, F5, st, tu, rfl, hi, HL, HK, HO, HT⟩ := hrel
        by_cases hlt : i < n
        · have bi2 : (i : Int) < (n : Int) := by omega
          have hia : i < at_.length := by have := HN.out; omega
          obtain ⟨x, hx⟩ : ∃ x, x = at_[i] := ⟨_, rfl⟩
          have GR := Lib.hid (Grown.trans GW.out HT.out.s.2.2)
          obtain ⟨b5, o5, rfl, hb5, hcx⟩ : ∃ b off, A = some ⟨b, off, none⟩ ∧ b < w.heap.size ∧ wr.cell? ⟨b, off + i, none⟩ = some (.int .u8 (x.toNat : Int)) := by
            rcases HA.out with e | ⟨b, off, e, hb, hc⟩
            · rw [e] at hia; simp at hia
            · exact ⟨b, off, e, hb, by rw [hx, GR.out.cell (p := ⟨b, off + i, none⟩) hb]; exact hc i hia⟩
          clear hx
          obtain ⟨a, ha⟩ : ∃ a, a = x.toNat % 8 := ⟨_, rfl⟩
          have ha8 : a < 8 := by omega
          have hat : ((x.toNat : Int).tmod 8) = (a : Int) := by rw [Int.tmod_eq_emod_of_nonneg (by omega)]; omega
          clear ha
          have hca := HT.out.cell a (by have := HL.out; omega)
          have hcf := HT.out.frozen a
          have T1 := Lib.hid (HT.out.set KK.out a true)
          have hne : b5 ≠ g := by have := HT.out.new; have := GW.out.size; omega
          have hcx2 : (wr.setCell ⟨g, a, none⟩ (.bool true)).cell? ⟨b5, o5 + i, none⟩ = some (.int .u8 (x.toNat : Int)) := (World.cell?_of_block (a := ⟨b5, o5 + i, none⟩) (heap_setCell_other wr ⟨g, a, none⟩ b5 _ hne)).trans hcx
          clear hne
          go_wp2_with fail
          clear hcx hcx2 hca hcf HT GR
          have hsz : (wr.setCell ⟨g, a, none⟩ (.bool true)).heap.size = wr.heap.size := by simp
          generalize wr.setCell ⟨g, a, none⟩ (.bool true) = wq at T1 hsz ⊢
          refine (wrT KK.out T1.out HO.out (by omega) (by rw [HK.out.n8]; omega) (a : Int) [9] 1 (0, 0) rfl (by omega) _ hsz).mono ?_
          rw [(HK.out.write HL.out a ha8 [9] (by simp)).1]
          rintro e w6 ⟨rfl, F6, ht⟩
          have T2 := Lib.hid ht
          have K2 := Lib.hid (HK.out.write HL.out a ha8 [9] (by simp)).2
          have O2 := Lib.hid (show Ok { st with pend := st.pend ++ [(a, pad512 [9])] } (8 + i + 1) from by
            have := ok_write HO.out (a : Int) [9]
            rw [(HK.out.write HL.out a ha8 [9] (by simp)).1] at this
            exact this)
          have L2 := Lib.hid (show (tu.set a true).length = 8 by rw [List.length_set]; exact HL.out)
          clear ht T1 HK HO HL
          go_wp2
          exact ⟨⟨i + 1, F6, _, _, by simp, by omega, L2.out, K2.out, O2.out, T2.out⟩, by simp [intOf]; omega⟩
        · have bi2 : ¬ (i : Int) < (n : Int) := by omega
          have HO3 := Lib.hid (HO.out.up (show 8 + i ≤ 40 by omega))
          clear HO
          go_wp2_with fail
          go_loopw [10] (fun v10 wr => ∃ (q : Nat) (F : Nat → Prop) (st : Dv), v10 = .int .i64 (q : Int) ∧ q ≤ n2 + 1 ∧ Hid (Kp st tu) ∧ Hid (Ok st 40) ∧ Hid (DT D w1 wr G F st g tu)) (fun v10 _ => n2 + 1 - (intOf v10).toNat)
          case atStart => exact ⟨0, F5, st, rfl, Nat.zero_le _, HK.out, HO3.out, HT.out⟩
          case round =>
            clear HK HO3 HT
            obtain ⟨q, F7, st, rfl, hq, HK, HO, HT⟩ := hrel
            by_cases hq2 : q ≤ n2
            · have bq : (q : Int) ≤ (n2 : Int) := by omega
              by_cases hq3 : q < n2
              · have bq3 : (q : Int) < (n2 : Int) := by omega
                have GR := Lib.hid (Grown.trans GW.out HT.out.s.2.2)
                have hqa : q < keeps.length := by have := HN2.out; omega
                obtain ⟨b6, o6, rfl, A3, n3, c3, hc6, hn3, hc3, hr3⟩ : ∃ b off, A2 = some ⟨b, off, none⟩ ∧ ∃ A3 n3 c3, wr.cell? ⟨b, off + q, none⟩ = some (.slice A3 n3 c3) ∧ (keeps[q]).length = n3 ∧ n3 ≤ c3 ∧ RdN w w.heap.size A3 keeps[q] := by
                  rcases HA2.out with e | ⟨b, off, e, hb, hc⟩
                  · rw [e] at hqa; simp at hqa
                  · obtain ⟨A3, n3, c3, h1, h2, h3, h4⟩ := hc q hqa
                    exact ⟨b, off, e, A3, n3, c3, (GR.out.cell (p := ⟨b, off + q, none⟩) hb).trans h1, h2, h3, h4⟩
                obtain ⟨kp, hkp⟩ : ∃ kp, kp = keeps[q] := ⟨_, rfl⟩
                rw [← hkp] at hn3 hr3
                have HN3 := Lib.hid hn3
                have HR3 := Lib.hid hr3
                clear hkp hn3 hr3
                by_cases h60 : (n3 : Int) > 60
                · go_wp2
                  go_ret
                  exact ⟨rfl, GR.out⟩
                · go_wp2_with fail
                  refine (KK.out.crash wr G F7 st 40 A3 n3 c3 kp HT.out.s.1 HO.out (by omega) (by rw [HK.out.n8]; omega) ?rd HN3.out hc3 (by omega) ?off).mono ?_
                  case rd =>
                    rcases HR3.out with e | ⟨b, off, e, hb, hc⟩
                    · exact .inl e
                    · exact .inr ⟨b, off, e, Nat.lt_of_lt_of_le hb GR.out.size, fun j hj => (GR.out.cell (p := ⟨b, off + j, none⟩) hb).trans (hc j hj)⟩
                  case off =>
                    intro x hx hl hf
                    rcases HR3.out with e | ⟨b, off, e, hb, hc⟩
                    · exact hl e
                    · rw [e] at hx
                      simp only [Option.some.injEq] at hx
                      subst hx
                      have h5 := HT.out.s.2.1 _ hf
                      have h6 := GW.out.size
                      simp only at h5
                      omega
                  rintro e w8 ⟨rfl, hd⟩
                  obtain ⟨F8, ht8⟩ := HT.out.step hd
                  have T8 := Lib.hid ht8
                  have K8 := Lib.hid (HK.out.crash kp)
                  have O8 := Lib.hid (ok_crash HO.out kp)
                  obtain ⟨s8, hs8⟩ : ∃ s8, s8 = (dvCrash st kp).2 := ⟨_, rfl⟩
                  rw [← hs8] at T8 K8 O8
                  clear hs8 ht8 hd HT HK HO GR hc6 HN3 HR3
                  go_wp2_with fail
                  go_loopw [11] (fun v11 wr => ∃ (k : Nat) (F : Nat → Prop), v11 = .int .i64 (k : Int) ∧ k ≤ 8 ∧ Hid (DT D w1 wr G F s8 g tu)) (fun v11 _ => 8 - (intOf v11).toNat)
                  case atStart => exact ⟨0, F8, rfl, by omega, T8.out⟩
                  case round =>
                    clear T8
                    obtain ⟨k, F9, rfl, hk8, HT9⟩ := hrel
                    by_cases hk9 : k < 8
                    · have bk9 : (k : Int) < 8 := by omega
                      have hck := HT9.out.cell k (by have := HL.out; omega)
                      cases htk : tu.getD k false with
                      | true =>
                        rw [htk] at hck
                        clear htk
                        go_wp2
                        exact ⟨⟨k + 1, F9, by simp, by omega, HT9.out⟩, by simp [intOf]; omega⟩
                      | false =>
                        rw [htk] at hck
                        have HTk := Lib.hid htk
                        clear htk
                        obtain ⟨x, hx⟩ : ∃ x, x = UInt8.ofNat k := ⟨_, rfl⟩
                        have hw8 : IntKind.u8.wrap (k : Int) = (x.toNat : Int) := by
                          rw [hx, UInt8.toNat_ofNat']
                          have e : IntKind.u8.wrap (k : Int) = (k : Int) % 256 := rfl
                          rw [e]
                          omega
                        have HX := Lib.hid (show [7, x] = p7 k by rw [hx]; rfl)
                        clear hx
                        have hcv : (convert 31 9 (.slice (some ⟨wr.heap.size, 0, none⟩) 2 2)).run Try.prog (wr.alloc (.cells #[.int .u8 7, .int .u8 (x.toNat : Int)] 5)) = .ok (.string ⟨[7, x].toArray⟩) (wr.alloc (.cells #[.int .u8 7, .int .u8 (x.toNat : Int)] 5)) := conv ((Row.new wr [7, x]).rd (B := wr.heap.size + 1) (Nat.lt_succ_self _)) 2
                        have TA := Lib.hid (HT9.out.grow KK.out (alloc_below wr (.cells #[.int .u8 7, .int .u8 (x.toNat : Int)] 5)))
                        go_wp2_with fail
                        refine (begins_any KK.out TA.out.s.1 O8.out (by omega) (by rw [K8.out.n8]; omega) (k : Int) [7, x] 2 rfl (by omega)).mono ?_
                        rintro e w9 ⟨rfl, hd⟩
                        rw [show decide (beg s8 (k : Int) [7, x]) = true from decide_eq_true (by rw [HX.out]; exact K8.out.begins k hk9 HTk.out)]
                        rw [K8.out.read k hk9] at hd
                        obtain ⟨F10, ht10⟩ := TA.out.step hd
                        have T10 := Lib.hid ht10
                        clear ht10 hd TA HT9 hcv hck
                        go_wp2
                        exact ⟨⟨k + 1, F10, by simp, by omega, T10.out⟩, by simp [intOf]; omega⟩
                    · have bk9 : ¬ (k : Int) < 8 := by omega
                      go_wp2
                      exact ⟨⟨q + 1, F9, s8, by simp, by omega, K8.out, O8.out, HT9.out⟩, by simp [intOf]; omega⟩
              · have bq3 : ¬ (q : Int) < (n2 : Int) := by omega
                have T8 := Lib.hid HT.out
                have K8 := Lib.hid HK.out
                have O8 := Lib.hid HO.out
                obtain ⟨s8, hs8⟩ : ∃ s8, s8 = st := ⟨_, rfl⟩
                rw [← hs8] at T8 K8 O8
                obtain ⟨F8, hF8⟩ : ∃ F8, F8 = F7 := ⟨_, rfl⟩
                rw [← hF8] at T8
                clear hF8 hs8 HT HK HO
                go_wp2_with fail
                go_loopw [11] (fun v11 wr => ∃ (k : Nat) (F : Nat → Prop), v11 = .int .i64 (k : Int) ∧ k ≤ 8 ∧ Hid (DT D w1 wr G F s8 g tu)) (fun v11 _ => 8 - (intOf v11).toNat)
                case atStart => exact ⟨0, F8, rfl, by omega, T8.out⟩
                case round =>
                  clear T8
                  obtain ⟨k, F9, rfl, hk8, HT9⟩ := hrel
                  by_cases hk9 : k < 8
                  · have bk9 : (k : Int) < 8 := by omega
                    have hck := HT9.out.cell k (by have := HL.out; omega)
                    cases htk : tu.getD k false with
                    | true =>
                      rw [htk] at hck
                      clear htk
                      go_wp2
                      exact ⟨⟨k + 1, F9, by simp, by omega, HT9.out⟩, by simp [intOf]; omega⟩
                    | false =>
                      rw [htk] at hck
                      have HTk := Lib.hid htk
                      clear htk
                      obtain ⟨x, hx⟩ : ∃ x, x = UInt8.ofNat k := ⟨_, rfl⟩
                      have hw8 : IntKind.u8.wrap (k : Int) = (x.toNat : Int) := by
                        rw [hx, UInt8.toNat_ofNat']
                        have e : IntKind.u8.wrap (k : Int) = (k : Int) % 256 := rfl
                        rw [e]
                        omega
                      have HX := Lib.hid (show [7, x] = p7 k by rw [hx]; rfl)
                      clear hx
                      have hcv : (convert 31 9 (.slice (some ⟨wr.heap.size, 0, none⟩) 2 2)).run Try.prog (wr.alloc (.cells #[.int .u8 7, .int .u8 (x.toNat : Int)] 5)) = .ok (.string ⟨[7, x].toArray⟩) (wr.alloc (.cells #[.int .u8 7, .int .u8 (x.toNat : Int)] 5)) := conv ((Row.new wr [7, x]).rd (B := wr.heap.size + 1) (Nat.lt_succ_self _)) 2
                      have TA := Lib.hid (HT9.out.grow KK.out (alloc_below wr (.cells #[.int .u8 7, .int .u8 (x.toNat : Int)] 5)))
                      go_wp2_with fail
                      refine (begins_any KK.out TA.out.s.1 O8.out (by omega) (by rw [K8.out.n8]; omega) (k : Int) [7, x] 2 rfl (by omega)).mono ?_
                      rintro e w9 ⟨rfl, hd⟩
                      rw [show decide (beg s8 (k : Int) [7, x]) = true from decide_eq_true (by rw [HX.out]; exact K8.out.begins k hk9 HTk.out)]
                      rw [K8.out.read k hk9] at hd
                      obtain ⟨F10, ht10⟩ := TA.out.step hd
                      have T10 := Lib.hid ht10
                      clear ht10 hd TA HT9 hcv hck
                      go_wp2
                      exact ⟨⟨k + 1, F10, by simp, by omega, T10.out⟩, by simp [intOf]; omega⟩
                  · have bk9 : ¬ (k : Int) < 8 := by omega
                    go_wp2
                    exact ⟨⟨q + 1, F9, s8, by simp, by omega, K8.out, O8.out, HT9.out⟩, by simp [intOf]; omega⟩
            · have bq : ¬ (q : Int) ≤ (n2 : Int) := by omega
              go_wp2_with fail
              refine (KK.out.count wr G F7 st 40 HT.out.s.1 HO.out).mono ?_
              rintro e w9 ⟨rfl, hg9⟩
              rw [HK.out.count]
              have G9 := Lib.hid (Grown.trans GW.out (Grown.trans HT.out.s.2.2 hg9))
              clear hg9
              go_wp2
              go_ret
              exact ⟨rfl, G9.out⟩
end
end Go.Proofs.Yteigfpgdnfladaa.S13
