/-
  OracleSame out of the program's contracts.
-/
import Derived.Test.YtjklgmhaebjjaaaMgOsameMain37
namespace Go.Proofs.Ytjklgmhaebjjaaa.S12
open S11
open Go.RowKit
set_option linter.unusedVariables false
set_option linter.unusedSimpArgs false

set_option maxHeartbeats 8000000 in
set_option maxRecDepth 20000 in
theorem same_walk {MR : Mod} {s0 : MR.σ} {T : Nat → World → Prop} {OI : Nat → Ob idealM} {OR : Nat → Ob MR} (K : OracleOk MR s0 T OI OR) (A : Option Addr) (n c : Nat) (seed : List UInt8) (D1 : Option Addr) (m d : Nat) (xs : List (List UInt8)) (D2 : Option Addr) (m2 d2 : Nat) (ys : List (List UInt8)) (w : World) (hT : T w.heap.size w)
    (hA : Rd w w.heap.size A seed) (hn : seed.length = n) (hc : n ≤ c) (hD1 : RdR w w.heap.size D1 xs) (hm : xs.length = m) (hd : m ≤ d) (hD2 : RdR w w.heap.size D2 ys) (hm2 : ys.length = m2) (hd2 : m2 ≤ d2) :
    Calls Try.prog 3 #[.slice A n c, .slice D1 m d, .slice D2 m2 d2] w fun e w' => e = .returned (.bool true) ∧ Below w.heap.size w w' := by
  have HA := Lib.hid hA
  have HN := Lib.hid hn
  have HD1 := Lib.hid hD1
  have HM := Lib.hid hm
  have HD2 := Lib.hid hD2
  have HM2 := Lib.hid hm2
  have HT := Lib.hid hT
  have KK := Lib.hid K
  clear hA hn hD1 hm hD2 hm2 hT
  by_cases hbig : n ≤ 1000 ∧ m ≤ 15 ∧ m2 = m
  case neg =>
    have hd0 : (n : Int) > 1000 ∨ ¬ (n : Int) > 1000 ∧ (m : Int) > 15 ∨ ¬ (n : Int) > 1000 ∧ ¬ (m : Int) > 15 ∧ ((m2 : Int) != (m : Int)) = true := by
      by_cases h1 : n ≤ 1000
      · by_cases h2 : m ≤ 15
        · exact .inr (.inr ⟨by omega, by omega, by rw [bne_iff_ne]; omega⟩)
        · exact .inr (.inl ⟨by omega, by omega⟩)
      · exact .inl (by omega)
    clear hbig
    rcases hd0 with h1 | ⟨h1, h2⟩ | ⟨h1, h2, h3⟩
    all_goals
      go_enter Try.func3, Try.ntmps3
      go_wp2_with fail
      refine (awakeO KK.out w.heap.size w HT.out (Nat.le_refl _)).mono ?_
      rintro e w1 ⟨rfl, hg1⟩
      have T1 := Lib.hid (KK.out.tk _ w w1 HT.out (Nat.le_refl _) hg1)
      go_wp2_with fail
      refine (awakeO KK.out w.heap.size w1 T1.out hg1.size).mono ?_
      rintro e w2 ⟨rfl, hg2⟩
      have HG := Lib.hid (Grown.trans hg1 hg2)
      go_wp2
      go_ret
      exact ⟨rfl, HG.out⟩
  obtain ⟨hn1, hm1, rfl⟩ := hbig
  have bn : ¬ (n : Int) > 1000 := by omega
  have bm : ¬ (m2 : Int) > 15 := by omega
  go_enter Try.func3, Try.ntmps3
  go_wp2_with fail
  refine (awakeO KK.out w.heap.size w HT.out (Nat.le_refl _)).mono ?_
  rintro e w1 ⟨rfl, hg1⟩
  have G1 := Lib.hid hg1
  clear hg1
  go_wp2_with fail
  clear bn bm
  go_loopw [7, 8] (fun v7 v8 wr => ∃ (i : Nat), v7 = .int .i64 (i : Int) ∧ i ≤ m2 ∧ Hid (∀ i', i' < i → ∀ k, k < i' → (nth xs i' = nth xs k ↔ nth ys i' = nth ys k)) ∧ Hid (Grown w wr)) (fun v7 _ _ => m2 - (intOf v7).toNat)
  case atStart => exact ⟨0, rfl, Nat.zero_le _, fun i' h => absurd h (by omega), G1.out⟩
  case round =>
    clear G1
    obtain ⟨i, rfl, hi, HS, HG⟩ := hrel
    by_cases hlt : i < m2
    · have bi : (i : Int) < (m2 : Int) := by omega
      obtain ⟨b1, o1, e1, hb1, hc1⟩ := HD1.out.at_ (by intro e; rw [e] at HM; have := HM.out; simp at this; omega)
      obtain ⟨b2, o2, e2, hb2, hc2⟩ := HD2.out.at_ (by intro e; rw [e] at HM2; have := HM2.out; simp at this; omega)
      subst e1 e2
      have HC1 := Lib.hid hc1
      have HC2 := Lib.hid hc2
      clear hc1 hc2
      go_wp2_with fail
      generalize wr = wo at HG ⊢
      go_loopw [8] (fun v8 wr => ∃ (k : Nat), v8 = .int .i64 (k : Int) ∧ k ≤ i ∧ Hid (∀ k', k' < k → (nth xs i = nth xs k' ↔ nth ys i = nth ys k')) ∧ Hid (Grown w wr)) (fun v8 _ => i - (intOf v8).toNat)
      case atStart => exact ⟨0, rfl, Nat.zero_le _, fun k' h => absurd h (by omega), HG.out⟩
      case round =>
        clear HG
        obtain ⟨k, rfl, hk, HS2, HG⟩ := hrel
        by_cases hlt2 : k < i
        · have bk : (k : Int) < (i : Int) := by omega
          have bk2 : (k : Int) < (m2 : Int) := by omega
          obtain ⟨Xi, hXi⟩ : ∃ l, l = nth xs i := ⟨_, rfl⟩
          obtain ⟨Xk, hXk⟩ : ∃ l, l = nth xs k := ⟨_, rfl⟩
          obtain ⟨Yi, hYi⟩ : ∃ l, l = nth ys i := ⟨_, rfl⟩
          obtain ⟨Yk, hYk⟩ : ∃ l, l = nth ys k := ⟨_, rfl⟩
          have c1 := HC1.out i (by rw [HM.out]; exact hlt)
          have c2 := HC1.out k (by rw [HM.out]; omega)
          have c3 := HC2.out i (by rw [HM2.out]; exact hlt)
          have c4 := HC2.out k (by rw [HM2.out]; omega)
          rw [← hXi] at c1
          rw [← hXk] at c2
          rw [← hYi] at c3
          rw [← hYk] at c4
          have LXi := Lib.hid c1.1
          have LXk := Lib.hid c2.1
          have LYi := Lib.hid c3.1
          have LYk := Lib.hid c4.1
          have R0 := Lib.hid (And.intro (range_below c1.2 hb1 HG.out) (And.intro (range_below c2.2 hb1 HG.out) (And.intro (range_below c3.2 hb2 HG.out) (range_below c4.2 hb2 HG.out))))
          have HIff := Lib.hid (show (nth xs i = nth xs k ↔ nth ys i = nth ys k) ↔ (Xi = Xk ↔ Yi = Yk) by rw [hXi, hXk, hYi, hYk])
          clear c1 c2 c3 c4 hXi hXk hYi hYk
          obtain ⟨p1, hp1⟩ : ∃ p, p = decide (Xi = Xk) := ⟨_, rfl⟩
          obtain ⟨p2, hp2⟩ : ∃ p, p = decide (Yi = Yk) := ⟨_, rfl⟩
          have HP1 := Lib.hid hp1
          have HP2 := Lib.hid hp2
          clear hp1 hp2
          go_wp2_with fail
          try simp only [Act.put, List.setIfInBounds_toArray, List.set_cons_zero, List.set_cons_succ]
          refine restS_begin (fun v : World => v.rangeAt b1 (o1 + i * 16) (bvs Xi) ∧ v.rangeAt b1 (o1 + k * 16) (bvs Xk) ∧ v.rangeAt b2 (o2 + i * 16) (bvs Yi) ∧ v.rangeAt b2 (o2 + k * 16) (bvs Yk)) (by kernel_rfl) ?_
          have S1 := Lib.hid (show wr.drew.rangeAt b1 (o1 + i * 16) (bvs Xi) ∧ wr.drew.rangeAt b1 (o1 + k * 16) (bvs Xk) ∧ wr.drew.rangeAt b2 (o2 + i * 16) (bvs Yi) ∧ wr.drew.rangeAt b2 (o2 + k * 16) (bvs Yk) from R0.out)
          have HG1 := Lib.hid HG.out.drew
          clear R0 HG
          generalize wr.drew = w3 at S1 HG1 ⊢
          refine restS_take (i := 0) S1.out rfl (by kernel_rfl) (by kernel_rfl) (by kernel_rfl) (by rfl) (fun v hv => by go_simp; try with_reducible rfl) ?_
          try simp only [Act.put, List.setIfInBounds_toArray, List.set_cons_zero, List.set_cons_succ]
          refine restS_take (i := 1) S1.out rfl (by kernel_rfl) (by kernel_rfl) (by kernel_rfl) (by rfl) (fun v hv => by go_simp; try with_reducible rfl) ?_
          try simp only [Act.put, List.setIfInBounds_toArray, List.set_cons_zero, List.set_cons_succ]
          refine restS_take (i := 2) S1.out rfl (by kernel_rfl) (by kernel_rfl) (by kernel_rfl) (by rfl) (fun v hv => by go_simp; try with_reducible rfl) ?_
          try simp only [Act.put, List.setIfInBounds_toArray, List.set_cons_zero, List.set_cons_succ]
          refine restS_range (i := 3) S1.out rfl (by kernel_rfl) (by kernel_rfl) (by kernel_rfl) (by rfl) 25 (.tmp 49) rfl b1 _ rfl (bvs Xi) _ (fun v hv => hv.1) u16a rfl (sz16 _ LXi.out) ?_
          try simp only [Act.put, List.setIfInBounds_toArray, List.set_cons_zero, List.set_cons_succ]
          refine restS_take (i := 4) S1.out rfl (by kernel_rfl) (by kernel_rfl) (by kernel_rfl) (by rfl) (fun v hv => by go_simp; try with_reducible rfl) ?_
          try simp only [Act.put, List.setIfInBounds_toArray, List.set_cons_zero, List.set_cons_succ]
          refine restS_take (i := 5) S1.out rfl (by kernel_rfl) (by kernel_rfl) (by kernel_rfl) (by rfl) (fun v hv => by go_simp; try with_reducible rfl) ?_
          try simp only [Act.put, List.setIfInBounds_toArray, List.set_cons_zero, List.set_cons_succ]
          refine restS_take (i := 6) S1.out rfl (by kernel_rfl) (by kernel_rfl) (by kernel_rfl) (by rfl) (fun v hv => by go_simp; try with_reducible rfl) ?_
          try simp only [Act.put, List.setIfInBounds_toArray, List.set_cons_zero, List.set_cons_succ]
          refine restS_range (i := 7) S1.out rfl (by kernel_rfl) (by kernel_rfl) (by kernel_rfl) (by rfl) 25 (.tmp 53) rfl b1 _ rfl (bvs Xk) _ (fun v hv => hv.2.1) u16a rfl (sz16 _ LXk.out) ?_
          try simp only [Act.put, List.setIfInBounds_toArray, List.set_cons_zero, List.set_cons_succ]
          refine restS_take (i := 8) (v := .bool p1) S1.out rfl (by kernel_rfl) (by kernel_rfl) (by kernel_rfl) (by rfl) (fun v hv => by rw [HP1.out]; exact exec_eq_two Xi Xk 25 16 u16a gt16 LXi.out LXk.out (.tmp 50) (.tmp 54) rfl rfl v) ?_
          try simp only [Act.put, List.setIfInBounds_toArray, List.set_cons_zero, List.set_cons_succ]
          refine restS_take (i := 9) S1.out rfl (by kernel_rfl) (by kernel_rfl) (by kernel_rfl) (by rfl) (fun v hv => by go_simp; try with_reducible rfl) ?_
          try simp only [Act.put, List.setIfInBounds_toArray, List.set_cons_zero, List.set_cons_succ]
          refine restS_take (i := 10) S1.out rfl (by kernel_rfl) (by kernel_rfl) (by kernel_rfl) (by rfl) (fun v hv => by go_simp; try with_reducible rfl) ?_
          try simp only [Act.put, List.setIfInBounds_toArray, List.set_cons_zero, List.set_cons_succ]
          refine restS_take (i := 11) S1.out rfl (by kernel_rfl) (by kernel_rfl) (by kernel_rfl) (by rfl) (fun v hv => by go_simp; try with_reducible rfl) ?_
          try simp only [Act.put, List.setIfInBounds_toArray, List.set_cons_zero, List.set_cons_succ]
          refine restS_range (i := 12) S1.out rfl (by kernel_rfl) (by kernel_rfl) (by kernel_rfl) (by rfl) 25 (.tmp 58) rfl b2 _ rfl (bvs Yi) _ (fun v hv => hv.2.2.1) u16a rfl (sz16 _ LYi.out) ?_
          try simp only [Act.put, List.setIfInBounds_toArray, List.set_cons_zero, List.set_cons_succ]
          refine restS_take (i := 13) S1.out rfl (by kernel_rfl) (by kernel_rfl) (by kernel_rfl) (by rfl) (fun v hv => by go_simp; try with_reducible rfl) ?_
          try simp only [Act.put, List.setIfInBounds_toArray, List.set_cons_zero, List.set_cons_succ]
          refine restS_take (i := 14) S1.out rfl (by kernel_rfl) (by kernel_rfl) (by kernel_rfl) (by rfl) (fun v hv => by go_simp; try with_reducible rfl) ?_
          try simp only [Act.put, List.setIfInBounds_toArray, List.set_cons_zero, List.set_cons_succ]
          refine restS_take (i := 15) S1.out rfl (by kernel_rfl) (by kernel_rfl) (by kernel_rfl) (by rfl) (fun v hv => by go_simp; try with_reducible rfl) ?_
          try simp only [Act.put, List.setIfInBounds_toArray, List.set_cons_zero, List.set_cons_succ]
          refine restS_range (i := 16) S1.out rfl (by kernel_rfl) (by kernel_rfl) (by kernel_rfl) (by rfl) 25 (.tmp 62) rfl b2 _ rfl (bvs Yk) _ (fun v hv => hv.2.2.2) u16a rfl (sz16 _ LYk.out) ?_
          try simp only [Act.put, List.setIfInBounds_toArray, List.set_cons_zero, List.set_cons_succ]
          refine restS_take (i := 17) (v := .bool p2) S1.out rfl (by kernel_rfl) (by kernel_rfl) (by kernel_rfl) (by rfl) (fun v hv => by rw [HP2.out]; exact exec_eq_two Yi Yk 25 16 u16a gt16 LYi.out LYk.out (.tmp 59) (.tmp 63) rfl rfl v) ?_
          try simp only [Act.put, List.setIfInBounds_toArray, List.set_cons_zero, List.set_cons_succ]
          refine restS_take (i := 18) S1.out rfl (by kernel_rfl) (by kernel_rfl) (by kernel_rfl) (by rfl) (fun v hv => by go_simp; try with_reducible rfl) ?_
          try simp only [Act.put, List.setIfInBounds_toArray, List.set_cons_zero, List.set_cons_succ]
          refine restS_done (by kernel_rfl) ?_
          clear S1
          have HEnd := Lib.hid (show p1 = p2 → ∀ k', k' < k + 1 → (nth xs i = nth xs k' ↔ nth ys i = nth ys k') from fun hpp k' hk' => by
            by_cases e : k' = k
            · subst e
              refine HIff.out.2 ?_
              rw [HP1.out, HP2.out] at hpp
              exact decide_eq_decide.1 hpp
            · exact HS2.out k' (by omega))
          clear HIff HP1 HP2 HS2
          cases p1 <;> cases p2
          case false.false =>
            go_wp2
            exact ⟨⟨k + 1, by simp, by omega, HEnd.out rfl, HG1.out⟩, by simp [intOf]; omega⟩
          case true.true =>
            go_wp2
            exact ⟨⟨k + 1, by simp, by omega, HEnd.out rfl, HG1.out⟩, by simp [intOf]; omega⟩
          case false.true =>
            go_wp2
            go_ret
            exact ⟨rfl, HG1.out⟩
          case true.false =>
            go_wp2
            go_ret
            exact ⟨rfl, HG1.out⟩
        · have bk : ¬ (k : Int) < (i : Int) := by omega
          go_wp2_with fail
          refine ⟨⟨i + 1, by simp, by omega, ?_, HG.out⟩, by simp [intOf]; omega⟩
          intro i' hi' k' hk'
          by_cases e : i' = i
          · rw [e] at hk' ⊢; exact HS2.out k' (by omega)
          · exact HS.out i' (by omega) k' hk'
    · have bi : ¬ (i : Int) < (m2 : Int) := by omega
      obtain rfl : i = m2 := by omega
      have Tr := Lib.hid (KK.out.tk _ w wr HT.out (Nat.le_refl _) HG.out)
      have Ar := Lib.hid (show Rd wr w.heap.size A seed from HA.out.below HG.out)
      have KI := Lib.hid (KK.out.pI w.heap.size)
      go_wp2_with fail
      refine (KK.out.ideal w.heap.size wr A n c seed Tr.out HG.out.size (Ar.out.more HG.out.size) HN.out hc (by omega)).mono ?_
      rintro e w2 ⟨G, F, rfl, hO, hF, hg⟩
      have G2 := Lib.hid (Grown.trans HG.out hg)
      have T2 := Lib.hid (KK.out.tk _ wr w2 Tr.out HG.out.size hg)
      have A2 := Lib.hid (show Rd w2 w.heap.size A seed from Ar.out.below (Below.mono hg HG.out.size))
      have HO2 := Lib.hid hO
      have HF2 := Lib.hid (show ∀ k, F k → w.heap.size ≤ k from fun k hk => Nat.le_trans HG.out.size (hF k hk))
      clear hO hF hg Tr Ar
      go_wp2_with fail
      refine (KK.out.ideal w.heap.size w2 A n c seed T2.out G2.out.size (A2.out.more G2.out.size) HN.out hc (by omega)).mono ?_
      rintro e w3 ⟨R, F2, rfl, hO, hF, hg⟩
      have G3 := Lib.hid (Grown.trans G2.out hg)
      have HD3 := Lib.hid (show Duo idealM (OI w.heap.size) w.heap.size G R w3 F F2 (emp0 seed) (emp0 seed) from
        { p := KI.out.toKept.grow HO2.out G2.out.size hg
          r := hO
          apart := fun k h1 h2 => by have := KI.out.toKept.foot w2 G F _ HO2.out k h1; have := hF k h2; omega
          pB := HF2.out
          rB := fun k hk => Nat.le_trans G2.out.size (hF k hk)
          bw := G3.out.size })
      clear hO hF hg HO2 HF2 T2 A2 G2
      have hmz := mk32k
      go_wp2_with fail
      have GG := Lib.hid (alloc_below w3 (.cells (bvs z32).toArray 5))
      have RA := Lib.hid ((Row.new w3 z32).rd (B := (w3.alloc (.cells (bvs z32).toArray 5)).heap.size) (by simp))
      have HD4 := Lib.hid (HD3.out.grow KI.out.toKept GG.out)
      have G4 := Lib.hid (Grown.trans G3.out GG.out)
      have BK := Lib.hid (Bes.new KI.out.toKept HD3.out.p (Nat.le_refl _) RA.out (show z32.length = 32 by rfl) (Nat.le_refl 32))
      obtain ⟨ga, hga⟩ : ∃ g, g = w3.heap.size := ⟨_, rfl⟩
      rw [← hga] at BK ⊢
      clear hga GG RA HD3 G3
      generalize w3.alloc _ = w4 at HD4 G4 BK ⊢
      refine (KI.out.block w4 G F (emp0 seed) 0 (some ⟨ga, 0, none⟩) 32 32 z32 HD4.out.p (nm_emp seed) (by omega) BK.out rfl).mono ?_
      rintro e w5 ⟨Ta, va, fea, fda, rea, rda, FA, rfl, hif, ⟨F5, hO, hF5, hC, hFF⟩, hFB, hcall⟩
      have HIa := Lib.hid hif
      have HCa := Lib.hid hcall
      have HD5 := Lib.hid (HD4.out.stepP KI.out.toKept hO hF5 hC)
      have G5 := Lib.hid (show Below w.heap.size w w5 from Below.trans G4.out (ch_belowB hC HD4.out.pB HD4.out.bw))
      have FA5 := Lib.hid (show Fc FA w5 w5 F5 F2 from ⟨fun k hk => ⟨hFF k hk, fun hf => by have h1 := KI.out.toKept.foot w4 R F2 _ HD4.out.r k hf; have h2 := (hFB k hk).1; omega, (hFB k hk).2⟩, fun _ _ => rfl, Nat.le_refl _⟩)
      clear hO hF5 hC hFF hFB hcall hif HD4 G4 BK
      go_wp2_with fail
      have GG := Lib.hid (alloc_below w5 (.cells (bvs z32).toArray 5))
      have RA := Lib.hid ((Row.new w5 z32).rd (B := (w5.alloc (.cells (bvs z32).toArray 5)).heap.size) (by simp))
      have HD6 := Lib.hid (HD5.out.grow KI.out.toKept GG.out)
      have G6 := Lib.hid (show Below w.heap.size w _ from Below.trans G5.out (Below.mono GG.out HD5.out.bw))
      have FA6 := Lib.hid (FA5.out.grow GG.out)
      have BK := Lib.hid (Bes.new KI.out.toKept HD5.out.r (Nat.le_refl _) RA.out (show z32.length = 32 by rfl) (Nat.le_refl 32))
      obtain ⟨gb, hgb⟩ : ∃ g, g = w5.heap.size := ⟨_, rfl⟩
      rw [← hgb] at BK ⊢
      clear hgb GG RA HD5 G5 FA5 hmz
      generalize w5.alloc _ = w6 at HD6 G6 FA6 BK ⊢
      refine (KI.out.block w6 R F2 (emp0 seed) 0 (some ⟨gb, 0, none⟩) 32 32 z32 HD6.out.r (nm_emp seed) (by omega) BK.out rfl).mono ?_
      rintro e w7 ⟨Tb, vb, feb, fdb, reb, rdb, FB, rfl, hif, ⟨F7, hO, hF7, hC, hFF⟩, hFB, hcall⟩
      have HIb := Lib.hid hif
      have HCb := Lib.hid hcall
      have HD7 := Lib.hid (HD6.out.stepR KI.out.toKept hO hF7 hC)
      have G7 := Lib.hid (show Below w.heap.size w w7 from Below.trans G6.out (ch_belowB hC HD6.out.rB HD6.out.bw))
      have FA7 := Lib.hid (FA6.out.stepR hF7 hC)
      have FB7 := Lib.hid (show Fc FB w7 w7 F5 F7 from ⟨fun k hk => ⟨fun hf => by have h1 := KI.out.toKept.foot w6 G F5 _ HD6.out.p k hf; have h2 := (hFB k hk).1; omega, hFF k hk, (hFB k hk).2⟩, fun _ _ => rfl, Nat.le_refl _⟩)
      clear hO hF7 hC hFF hFB hcall hif HD6 G6 FA6 BK
      go_wp2_with fail
      clear HA bi hlt hi
      go_loopw [15] (fun v15 wr => ∃ (q : Nat) (sa sb : St) (F F2 : Nat → Prop), v15 = .int .i64 (q : Int) ∧ q ≤ i ∧ Hid (Par (nth xs) (nth ys) q sa sb) ∧ Hid (Nm sa (2 * q) ∧ Nm sb (2 * q)) ∧ Hid (Duo idealM (OI w.heap.size) w.heap.size G R wr F F2 sa sb) ∧ Hid (Fc FA w5 wr F F2 ∧ Fc FB w7 wr F F2) ∧ Hid (Below w.heap.size w wr)) (fun v15 _ => i - (intOf v15).toNat)
      case atStart => exact ⟨0, emp0 seed, emp0 seed, F5, F7, rfl, Nat.zero_le _, par_emp _ _ [] _ ⟨rfl, rfl⟩, ⟨nm_emp seed, nm_emp seed⟩, HD7.out, ⟨FA7.out, FB7.out⟩, G7.out⟩
      case round =>
        clear HD7 FA7 FB7 G7
        obtain ⟨q, sa, sb, F, F2, rfl, hq, HPar, HNm, HD, HFc, HB⟩ := hrel
        by_cases hlt : q < i
        · have bi : (q : Int) < (i : Int) := by omega
          obtain ⟨b1, o1, e1, hb1, hc1⟩ := HD1.out.at_ (by intro e; rw [e] at HM; have := HM.out; simp at this; omega)
          obtain ⟨b2, o2, e2, hb2, hc2⟩ := HD2.out.at_ (by intro e; rw [e] at HM2; have := HM2.out; simp at this; omega)
          subst e1 e2
          have c1 := hc1 q (by rw [HM.out]; exact hlt)
          have c2 := hc2 q (by rw [HM2.out]; exact hlt)
          have HLx := Lib.hid (show ∀ k, k < q + 1 → (nth xs k).length = 16 from fun k hk => (hc1 k (by rw [HM.out]; omega)).1)
          have HLy := Lib.hid (show ∀ k, k < q + 1 → (nth ys k).length = 16 from fun k hk => (hc2 k (by rw [HM2.out]; omega)).1)
          have HSq := Lib.hid (show ∀ k, k < q + 1 → (nth xs k = nth xs q ↔ nth ys k = nth ys q) from fun k hk => by
            by_cases e : k = q
            · subst e; exact ⟨fun _ => rfl, fun _ => rfl⟩
            · have := HS.out q hlt k (by omega)
              exact ⟨fun h => (this.1 h.symm).symm, fun h => (this.2 h.symm).symm⟩)
          have HPE := Lib.hid (par_enc (HPar.out.up (Nat.le_succ q)) (Nat.lt_succ_self q) HSq.out HLx.out HLy.out)
          have HPS := Lib.hid (par_seal HPE.out.2 (Nat.lt_succ_self q) HSq.out)
          obtain ⟨Xq, hXq⟩ : ∃ l, l = nth xs q := ⟨_, rfl⟩
          obtain ⟨Yq, hYq⟩ : ∃ l, l = nth ys q := ⟨_, rfl⟩
          rw [← hXq] at c1 HPE HPS
          rw [← hYq] at c2 HPE HPS
          have LX := Lib.hid c1.1
          have LY := Lib.hid c2.1
          have R0 := Lib.hid (And.intro (range_below c1.2 hb1 HB.out) (range_below c2.2 hb2 HB.out))
          clear c1 c2 hc1 hc2 HSq HLx HLy hXq hYq HPar
          go_wp2_with fail
          try simp only [Act.put, List.setIfInBounds_toArray, List.set_cons_zero, List.set_cons_succ]
          refine restS_begin (fun v : World => v.rangeAt b1 (o1 + q * 16) (bvs Xq) ∧ v.rangeAt b2 (o2 + q * 16) (bvs Yq)) (by kernel_rfl) ?_
          have S1 := Lib.hid (show wr.drew.rangeAt b1 (o1 + q * 16) (bvs Xq) ∧ wr.drew.rangeAt b2 (o2 + q * 16) (bvs Yq) from R0.out)
          have GD := Lib.hid (show Grown wr wr.drew from (Below.refl _ wr).drew)
          have HB1 := Lib.hid HB.out.drew
          have HD1' := Lib.hid (HD.out.grow KI.out.toKept GD.out)
          have FA1 := Lib.hid (HFc.out.1.grow GD.out)
          have FB1 := Lib.hid (HFc.out.2.grow GD.out)
          clear R0 HB HD HFc GD
          generalize wr.drew = v1 at S1 HB1 HD1' FA1 FB1 ⊢
          have hmf : ∀ (fn : Fn) (first cap : Array Value) (V : World), (Instr.makeFunc fn first cap).run Try.prog V = .ok (.func fn first cap) V := fun _ _ _ _ => rfl
          have hn1' := HIa.out.ne
          have hm1' := HIa.out.me
          have hc1' := HIa.out.ce
          have hn2' := HIb.out.ne
          have hm2' := HIb.out.me
          have hc2' := HIb.out.ce
          refine restS_take (i := 0) S1.out rfl (by kernel_rfl) (by kernel_rfl) (by kernel_rfl) (by rfl) (fun v hv => by go_simp; try with_reducible rfl) ?_
          try simp only [Act.put, List.setIfInBounds_toArray, List.set_cons_zero, List.set_cons_succ]
          refine restS_take (i := 1) S1.out rfl (by kernel_rfl) (by kernel_rfl) (by kernel_rfl) (by rfl) (fun v hv => by go_simp; try with_reducible rfl) ?_
          try simp only [Act.put, List.setIfInBounds_toArray, List.set_cons_zero, List.set_cons_succ]
          refine restS_take (i := 2) S1.out rfl (by kernel_rfl) (by kernel_rfl) (by kernel_rfl) (by rfl) (fun v hv => by go_simp; try with_reducible rfl) ?_
          try simp only [Act.put, List.setIfInBounds_toArray, List.set_cons_zero, List.set_cons_succ]
          refine restS_take (i := 3) S1.out rfl (by kernel_rfl) (by kernel_rfl) (by kernel_rfl) (by rfl) (fun v hv => by go_simp; try with_reducible rfl) ?_
          try simp only [Act.put, List.setIfInBounds_toArray, List.set_cons_zero, List.set_cons_succ]
          refine restS_range (i := 4) S1.out rfl (by kernel_rfl) (by kernel_rfl) (by kernel_rfl) (by rfl) 25 (.tmp 97) rfl b1 _ rfl (bvs Xq) _ (fun v hv => hv.1) u16a rfl (sz16 _ LX.out) ?_
          try simp only [Act.put, List.setIfInBounds_toArray, List.set_cons_zero, List.set_cons_succ]
          refine restS_take (i := 5) S1.out rfl (by kernel_rfl) (by kernel_rfl) (by kernel_rfl) (by rfl) (fun v hv => by go_simp; try with_reducible rfl) ?_
          try simp only [Act.put, List.setIfInBounds_toArray, List.set_cons_zero, List.set_cons_succ]
          refine restS_take (i := 6) S1.out rfl (by kernel_rfl) (by kernel_rfl) (by kernel_rfl) (by rfl) (fun v hv => by go_simp; try with_reducible rfl) ?_
          try simp only [Act.put, List.setIfInBounds_toArray, List.set_cons_zero, List.set_cons_succ]
          refine restS_take (i := 7) S1.out rfl (by kernel_rfl) (by kernel_rfl) (by kernel_rfl) (by rfl) (fun v hv => by go_simp; try with_reducible rfl) ?_
          try simp only [Act.put, List.setIfInBounds_toArray, List.set_cons_zero, List.set_cons_succ]
          refine restS_take (i := 9) S1.out rfl (by kernel_rfl) (by kernel_rfl) (by kernel_rfl) (by rfl) (fun v hv => by go_simp; try with_reducible rfl) ?_
          try simp only [Act.put, List.setIfInBounds_toArray, List.set_cons_zero, List.set_cons_succ]
          refine restS_take (i := 10) S1.out rfl (by kernel_rfl) (by kernel_rfl) (by kernel_rfl) (by rfl) (fun v hv => by go_simp; try with_reducible rfl) ?_
          try simp only [Act.put, List.setIfInBounds_toArray, List.set_cons_zero, List.set_cons_succ]
          refine restS_take (i := 11) S1.out rfl (by kernel_rfl) (by kernel_rfl) (by kernel_rfl) (by rfl) (fun v hv => by go_simp; try with_reducible rfl) ?_
          try simp only [Act.put, List.setIfInBounds_toArray, List.set_cons_zero, List.set_cons_succ]
          refine restS_take (i := 12) S1.out rfl (by kernel_rfl) (by kernel_rfl) (by kernel_rfl) (by rfl) (fun v hv => by go_simp; try with_reducible rfl) ?_
          try simp only [Act.put, List.setIfInBounds_toArray, List.set_cons_zero, List.set_cons_succ]
          refine restS_range (i := 13) S1.out rfl (by kernel_rfl) (by kernel_rfl) (by kernel_rfl) (by rfl) 25 (.tmp 106) rfl b2 _ rfl (bvs Yq) _ (fun v hv => hv.2) u16a rfl (sz16 _ LY.out) ?_
          try simp only [Act.put, List.setIfInBounds_toArray, List.set_cons_zero, List.set_cons_succ]
          refine restS_take (i := 14) S1.out rfl (by kernel_rfl) (by kernel_rfl) (by kernel_rfl) (by rfl) (fun v hv => by go_simp; try with_reducible rfl) ?_
          try simp only [Act.put, List.setIfInBounds_toArray, List.set_cons_zero, List.set_cons_succ]
          refine restS_take (i := 15) S1.out rfl (by kernel_rfl) (by kernel_rfl) (by kernel_rfl) (by rfl) (fun v hv => by go_simp; try with_reducible rfl) ?_
          try simp only [Act.put, List.setIfInBounds_toArray, List.set_cons_zero, List.set_cons_succ]
          refine restS_take (i := 16) S1.out rfl (by kernel_rfl) (by kernel_rfl) (by kernel_rfl) (by rfl) (fun v hv => by go_simp; try with_reducible rfl) ?_
          try simp only [Act.put, List.setIfInBounds_toArray, List.set_cons_zero, List.set_cons_succ]
          refine restS_lone (i := 8) rfl (by kernel_rfl) (by rfl) (fun K hK => ?_)
          go_simp
          refine ((HCa.out v1 F sa (2 * q) HD1'.out.p HNm.out.1 (by omega) FA1.out.same FA1.out.size (fun k hk => (FA1.out.loc k hk).1)).1 Xq LX.out).mono ?_
          rintro e v2 ⟨rfl, F', hO, hF', hC⟩
          have HD2' := Lib.hid (HD1'.out.stepP KI.out.toKept hO hF' hC)
          have FA2 := Lib.hid (FA1.out.stepP hF' hC)
          have FB2 := Lib.hid (FB1.out.stepP hF' hC)
          have bl := ch_belowB hC HD1'.out.pB HD1'.out.bw
          have HB2 := Lib.hid (Below.trans HB1.out bl)
          have S2 := Lib.hid (And.intro (range_below S1.out.1 hb1 bl) (range_below S1.out.2 hb2 bl))
          clear hO hF' hC bl HB1 S1 HD1' FA1 FB1
          refine hK.out _ _ S2.out ?_
          clear hK K
          try simp only [Act.put, List.setIfInBounds_toArray, List.set_cons_zero, List.set_cons_succ]
          refine restS_lone (i := 17) rfl (by kernel_rfl) (by rfl) (fun K hK => ?_)
          go_simp
          refine ((HCb.out v2 F2 sb (2 * q) HD2'.out.r HNm.out.2 (by omega) FB2.out.same FB2.out.size (fun k hk => (FB2.out.loc k hk).2.1)).1 Yq LY.out).mono ?_
          rintro e v3 ⟨rfl, F2', hO, hF', hC⟩
          have HD3' := Lib.hid (HD2'.out.stepR KI.out.toKept hO hF' hC)
          have FA3 := Lib.hid (FA2.out.stepR hF' hC)
          have FB3 := Lib.hid (FB2.out.stepR hF' hC)
          have bl := ch_belowB hC HD2'.out.rB HD2'.out.bw
          have HB3 := Lib.hid (Below.trans HB2.out bl)
          have S3 := Lib.hid (And.intro (range_below S2.out.1 hb1 bl) (range_below S2.out.2 hb2 bl))
          clear hO hF' hC bl HB2 S2 HD2' FA2 FB2
          clear hmf hn1' hm1' hc1' hn2' hm2' hc2'
          obtain ⟨E, hE⟩ : ∃ E, E = (idealM.enc sa z32 Xq).1 := ⟨_, rfl⟩
          have HEE := Lib.hid (show (idealM.enc sb z32 Yq).1 = E by rw [hE]; exact HPE.out.1.symm)
          have HEl := Lib.hid (show E.length = 16 by rw [hE]; exact idealM.len_enc sa (2 * q) _ _ HNm.out.1 LX.out)
          rw [HEE.out, ← hE]
          obtain ⟨sa1, hsa1⟩ : ∃ s, s = (idealM.enc sa z32 Xq).2 := ⟨_, rfl⟩
          obtain ⟨sb1, hsb1⟩ : ∃ s, s = (idealM.enc sb z32 Yq).2 := ⟨_, rfl⟩
          have HNa := Lib.hid (show Nm sa1 (2 * q + 1) by rw [hsa1]; exact idealM.num_enc sa _ _ _ HNm.out.1 (by omega))
          have HNb := Lib.hid (show Nm sb1 (2 * q + 1) by rw [hsb1]; exact idealM.num_enc sb _ _ _ HNm.out.2 (by omega))
          rw [← hsa1, ← hsb1] at HD3'
          have HPS' := Lib.hid (show (fnOp sa1 sealN (sealQ [] Xq) 64).1 = (fnOp sb1 sealN (sealQ [] Yq) 64).1 ∧ Par (nth xs) (nth ys) (q + 1) (fnOp sa1 sealN (sealQ [] Xq) 64).2 (fnOp sb1 sealN (sealQ [] Yq) 64).2 by rw [hsa1, hsb1]; exact HPS.out)
          obtain ⟨Ds, hDs⟩ : ∃ l, l = (idealM.mac sa1 [] Xq).1 := ⟨_, rfl⟩
          have hDs2 : Ds = (idealM.mac sb1 [] Yq).1 := hDs.trans HPS'.out.1
          obtain ⟨sa2, hsa2⟩ : ∃ s, s = (idealM.mac sa1 [] Xq).2 := ⟨_, rfl⟩
          obtain ⟨sb2, hsb2⟩ : ∃ s, s = (idealM.mac sb1 [] Yq).2 := ⟨_, rfl⟩
          have HDl := Lib.hid (show Ds.length = 64 by rw [hDs]; exact idealM.len_mac sa1 (2 * q + 1) _ _ HNa.out)
          have HPar2 := Lib.hid (show Par (nth xs) (nth ys) (q + 1) sa2 sb2 by rw [hsa2, hsb2]; exact HPS'.out.2)
          have hq250 : 2 * q + 1 < 250 := by omega
          have HN2 := Lib.hid (show Nm sa2 (2 * (q + 1)) ∧ Nm sb2 (2 * (q + 1)) from ⟨by rw [hsa2]; exact idealM.num_mac sa1 _ _ _ HNa.out hq250, by rw [hsb2]; exact idealM.num_mac sb1 _ _ _ HNb.out hq250⟩)
          have HDs := Lib.hid hDs
          have HDs2 := Lib.hid hDs2
          have Hsa2 := Lib.hid hsa2
          have Hsb2 := Lib.hid hsb2
          clear hE hsa1 hsb1 HPE HPS HEE HNm HPS' hDs hDs2 hsa2 hsb2
          refine hK.out _ _ S3.out ?_
          clear hK K
          try simp only [Act.put, List.setIfInBounds_toArray, List.set_cons_zero, List.set_cons_succ]
          refine restS_take (i := 18) S3.out rfl (by kernel_rfl) (by kernel_rfl) (by kernel_rfl) (by rfl) (fun v hv => ne_arr E 25 16 u16a gt16 HEl.out (.tmp 102) (.tmp 111) rfl rfl v) ?_
          try simp only [Act.put, List.setIfInBounds_toArray, List.set_cons_zero, List.set_cons_succ]
          have hs1 := fun V : World => cut16o V b1 (o1 + q * 16)
          have hs2 := fun V : World => cut16o V b2 (o2 + q * 16)
          refine restS_take (i := 19) S3.out rfl (by kernel_rfl) (by kernel_rfl) (by kernel_rfl) (by rfl) (fun v hv => by go_simp; try with_reducible rfl) ?_
          try simp only [Act.put, List.setIfInBounds_toArray, List.set_cons_zero, List.set_cons_succ]
          refine restS_take (i := 20) S3.out rfl (by kernel_rfl) (by kernel_rfl) (by kernel_rfl) (by rfl) (fun v hv => by go_simp; try with_reducible rfl) ?_
          try simp only [Act.put, List.setIfInBounds_toArray, List.set_cons_zero, List.set_cons_succ]
          refine restS_take (i := 21) S3.out rfl (by kernel_rfl) (by kernel_rfl) (by kernel_rfl) (by rfl) (fun v hv => by go_simp; try with_reducible rfl) ?_
          try simp only [Act.put, List.setIfInBounds_toArray, List.set_cons_zero, List.set_cons_succ]
          refine restS_take (i := 22) S3.out rfl (by kernel_rfl) (by kernel_rfl) (by kernel_rfl) (by rfl) (fun v hv => by go_simp; try with_reducible rfl) ?_
          try simp only [Act.put, List.setIfInBounds_toArray, List.set_cons_zero, List.set_cons_succ]
          refine restS_take (i := 23) S3.out rfl (by kernel_rfl) (by kernel_rfl) (by kernel_rfl) (by rfl) (fun v hv => by go_simp; try with_reducible rfl) ?_
          try simp only [Act.put, List.setIfInBounds_toArray, List.set_cons_zero, List.set_cons_succ]
          refine restS_take (i := 24) S3.out rfl (by kernel_rfl) (by kernel_rfl) (by kernel_rfl) (by rfl) (fun v hv => by go_simp; try with_reducible rfl) ?_
          try simp only [Act.put, List.setIfInBounds_toArray, List.set_cons_zero, List.set_cons_succ]
          refine restS_take (i := 27) S3.out rfl (by kernel_rfl) (by kernel_rfl) (by kernel_rfl) (by rfl) (fun v hv => by go_simp; try with_reducible rfl) ?_
          try simp only [Act.put, List.setIfInBounds_toArray, List.set_cons_zero, List.set_cons_succ]
          refine restS_take (i := 28) S3.out rfl (by kernel_rfl) (by kernel_rfl) (by kernel_rfl) (by rfl) (fun v hv => by go_simp; try with_reducible rfl) ?_
          try simp only [Act.put, List.setIfInBounds_toArray, List.set_cons_zero, List.set_cons_succ]
          refine restS_take (i := 29) S3.out rfl (by kernel_rfl) (by kernel_rfl) (by kernel_rfl) (by rfl) (fun v hv => by go_simp; try with_reducible rfl) ?_
          try simp only [Act.put, List.setIfInBounds_toArray, List.set_cons_zero, List.set_cons_succ]
          refine restS_take (i := 30) S3.out rfl (by kernel_rfl) (by kernel_rfl) (by kernel_rfl) (by rfl) (fun v hv => by go_simp; try with_reducible rfl) ?_
          try simp only [Act.put, List.setIfInBounds_toArray, List.set_cons_zero, List.set_cons_succ]
          refine restS_take (i := 31) S3.out rfl (by kernel_rfl) (by kernel_rfl) (by kernel_rfl) (by rfl) (fun v hv => by go_simp; try with_reducible rfl) ?_
          try simp only [Act.put, List.setIfInBounds_toArray, List.set_cons_zero, List.set_cons_succ]
          clear hs1 hs2
          refine restS_two (i := 25) (j := 32) rfl rfl (by kernel_rfl) (by rfl) (by rfl) (fun K hK => ?a1) (fun K hK => ?a2)
          case' a1 =>
            go_simp
            have GG := Lib.hid (alloc_below v3 (.cells #[.slice (some ⟨b1, o1 + q * 16, none⟩) 16 16] 22))
            have HD4' := Lib.hid (HD3'.out.grow KI.out.toKept GG.out)
            have FA4 := Lib.hid (FA3.out.grow GG.out)
            have FB4 := Lib.hid (FB3.out.grow GG.out)
            have HB4 := Lib.hid (Below.trans HB3.out (Below.mono GG.out HD3'.out.bw))
            have S4 := Lib.hid (And.intro (range_below S3.out.1 hb1 (Below.mono GG.out HD3'.out.bw)) (range_below S3.out.2 hb2 (Below.mono GG.out HD3'.out.bw)))
            have g1n := Lib.hid (Pc.new KI.out.toKept HD3'.out b1 (o1 + q * 16))
            obtain ⟨g1, hg1⟩ : ∃ g, g = v3.heap.size := ⟨_, rfl⟩
            rw [← hg1] at g1n ⊢
            clear hg1 GG HD3' FA3 FB3 HB3 S3
            generalize v3.alloc _ = v4 at HD4' FA4 FB4 HB4 S4 g1n  ⊢
            refine hK.out _ _ S4.out ?_
            clear hK K
            try simp only [Act.put, List.setIfInBounds_toArray, List.set_cons_zero, List.set_cons_succ]
            refine restS_two (i := 26) (j := 32) rfl rfl (by kernel_rfl) (by rfl) (by rfl) (fun K hK => ?c1) (fun K hK => ?c2)
            case' c1 =>
              go_simp
              refine (KI.out.mac v4 G F' sa1 (2 * q + 1) none 0 0 [] (some ⟨g1, 0, none⟩) 1 1 [Xq] HD4'.out.p HNa.out (by omega) (besNil _ _) (by omega) (besL_at g1n.out.row g1n.out.nP (HD4'.out.besP (range_rdB S4.out.1 hb1) LX.out (Nat.le_refl _))) (by omega) (by rw [show [Xq].flatten = Xq by simp, LX.out]; omega)).mono ?_
              rw [show [Xq].flatten = Xq by simp, ← HDs.out, ← Hsa2.out]
              rintro e v5 ⟨rfl, F'', hO, hF', hC⟩
              have HD5' := Lib.hid (HD4'.out.stepP KI.out.toKept hO hF' hC)
              have FA5 := Lib.hid (FA4.out.stepP hF' hC)
              have FB5 := Lib.hid (FB4.out.stepP hF' hC)
              have bl := ch_belowB hC HD4'.out.pB HD4'.out.bw
              have HB5 := Lib.hid (Below.trans HB4.out bl)
              have S5 := Lib.hid (And.intro (range_below S4.out.1 hb1 bl) (range_below S4.out.2 hb2 bl))
              clear hO hF' hC bl HB4 S4 HD4' FA4 FB4 g1n
              refine hK.out _ _ S5.out ?_
              clear hK K
              try simp only [Act.put, List.setIfInBounds_toArray, List.set_cons_zero, List.set_cons_succ]
              refine restS_lone (i := 32) rfl (by kernel_rfl) (by rfl) (fun K hK => ?_)
              go_simp
              have GG := Lib.hid (alloc_below v5 (.cells #[.slice (some ⟨b2, o2 + q * 16, none⟩) 16 16] 22))
              have HD6' := Lib.hid (HD5'.out.grow KI.out.toKept GG.out)
              have FA6 := Lib.hid (FA5.out.grow GG.out)
              have FB6 := Lib.hid (FB5.out.grow GG.out)
              have HB6 := Lib.hid (Below.trans HB5.out (Below.mono GG.out HD5'.out.bw))
              have S6 := Lib.hid (And.intro (range_below S5.out.1 hb1 (Below.mono GG.out HD5'.out.bw)) (range_below S5.out.2 hb2 (Below.mono GG.out HD5'.out.bw)))
              have g2n := Lib.hid (Pc.new KI.out.toKept HD5'.out b2 (o2 + q * 16))
              obtain ⟨g2, hg2⟩ : ∃ g, g = v5.heap.size := ⟨_, rfl⟩
              rw [← hg2] at g2n ⊢
              clear hg2 GG HD5' FA5 FB5 HB5 S5
              generalize v5.alloc _ = v6 at HD6' FA6 FB6 HB6 S6 g2n  ⊢
              refine hK.out _ _ S6.out ?_
              clear hK K
              try simp only [Act.put, List.setIfInBounds_toArray, List.set_cons_zero, List.set_cons_succ]
            case' c2 =>
              go_simp
              have GG := Lib.hid (alloc_below v4 (.cells #[.slice (some ⟨b2, o2 + q * 16, none⟩) 16 16] 22))
              have HD5' := Lib.hid (HD4'.out.grow KI.out.toKept GG.out)
              have FA5 := Lib.hid (FA4.out.grow GG.out)
              have FB5 := Lib.hid (FB4.out.grow GG.out)
              have HB5 := Lib.hid (Below.trans HB4.out (Below.mono GG.out HD4'.out.bw))
              have S5 := Lib.hid (And.intro (range_below S4.out.1 hb1 (Below.mono GG.out HD4'.out.bw)) (range_below S4.out.2 hb2 (Below.mono GG.out HD4'.out.bw)))
              have g2n := Lib.hid (Pc.new KI.out.toKept HD4'.out b2 (o2 + q * 16))
              replace g1n := Lib.hid (g1n.out.grow GG.out)
              obtain ⟨g2, hg2⟩ : ∃ g, g = v4.heap.size := ⟨_, rfl⟩
              rw [← hg2] at g2n ⊢
              clear hg2 GG HD4' FA4 FB4 HB4 S4
              generalize v4.alloc _ = v5 at HD5' FA5 FB5 HB5 S5 g2n g1n ⊢
              refine hK.out _ _ S5.out ?_
              clear hK K
              try simp only [Act.put, List.setIfInBounds_toArray, List.set_cons_zero, List.set_cons_succ]
              refine restS_lone (i := 26) rfl (by kernel_rfl) (by rfl) (fun K hK => ?_)
              go_simp
              refine (KI.out.mac v5 G F' sa1 (2 * q + 1) none 0 0 [] (some ⟨g1, 0, none⟩) 1 1 [Xq] HD5'.out.p HNa.out (by omega) (besNil _ _) (by omega) (besL_at g1n.out.row g1n.out.nP (HD5'.out.besP (range_rdB S5.out.1 hb1) LX.out (Nat.le_refl _))) (by omega) (by rw [show [Xq].flatten = Xq by simp, LX.out]; omega)).mono ?_
              rw [show [Xq].flatten = Xq by simp, ← HDs.out, ← Hsa2.out]
              rintro e v6 ⟨rfl, F'', hO, hF', hC⟩
              have HD6' := Lib.hid (HD5'.out.stepP KI.out.toKept hO hF' hC)
              have FA6 := Lib.hid (FA5.out.stepP hF' hC)
              have FB6 := Lib.hid (FB5.out.stepP hF' hC)
              have bl := ch_belowB hC HD5'.out.pB HD5'.out.bw
              have HB6 := Lib.hid (Below.trans HB5.out bl)
              have S6 := Lib.hid (And.intro (range_below S5.out.1 hb1 bl) (range_below S5.out.2 hb2 bl))
              replace g2n := Lib.hid (g2n.out.stepP hF' hC)
              clear hO hF' hC bl HB5 S5 HD5' FA5 FB5 g1n
              refine hK.out _ _ S6.out ?_
              clear hK K
              try simp only [Act.put, List.setIfInBounds_toArray, List.set_cons_zero, List.set_cons_succ]
          case' a2 =>
            go_simp
            have GG := Lib.hid (alloc_below v3 (.cells #[.slice (some ⟨b2, o2 + q * 16, none⟩) 16 16] 22))
            have HD4' := Lib.hid (HD3'.out.grow KI.out.toKept GG.out)
            have FA4 := Lib.hid (FA3.out.grow GG.out)
            have FB4 := Lib.hid (FB3.out.grow GG.out)
            have HB4 := Lib.hid (Below.trans HB3.out (Below.mono GG.out HD3'.out.bw))
            have S4 := Lib.hid (And.intro (range_below S3.out.1 hb1 (Below.mono GG.out HD3'.out.bw)) (range_below S3.out.2 hb2 (Below.mono GG.out HD3'.out.bw)))
            have g2n := Lib.hid (Pc.new KI.out.toKept HD3'.out b2 (o2 + q * 16))
            obtain ⟨g2, hg2⟩ : ∃ g, g = v3.heap.size := ⟨_, rfl⟩
            rw [← hg2] at g2n ⊢
            clear hg2 GG HD3' FA3 FB3 HB3 S3
            generalize v3.alloc _ = v4 at HD4' FA4 FB4 HB4 S4 g2n  ⊢
            refine hK.out _ _ S4.out ?_
            clear hK K
            try simp only [Act.put, List.setIfInBounds_toArray, List.set_cons_zero, List.set_cons_succ]
            refine restS_lone (i := 25) rfl (by kernel_rfl) (by rfl) (fun K hK => ?_)
            go_simp
            have GG := Lib.hid (alloc_below v4 (.cells #[.slice (some ⟨b1, o1 + q * 16, none⟩) 16 16] 22))
            have HD5' := Lib.hid (HD4'.out.grow KI.out.toKept GG.out)
            have FA5 := Lib.hid (FA4.out.grow GG.out)
            have FB5 := Lib.hid (FB4.out.grow GG.out)
            have HB5 := Lib.hid (Below.trans HB4.out (Below.mono GG.out HD4'.out.bw))
            have S5 := Lib.hid (And.intro (range_below S4.out.1 hb1 (Below.mono GG.out HD4'.out.bw)) (range_below S4.out.2 hb2 (Below.mono GG.out HD4'.out.bw)))
            have g1n := Lib.hid (Pc.new KI.out.toKept HD4'.out b1 (o1 + q * 16))
            replace g2n := Lib.hid (g2n.out.grow GG.out)
            obtain ⟨g1, hg1⟩ : ∃ g, g = v4.heap.size := ⟨_, rfl⟩
            rw [← hg1] at g1n ⊢
            clear hg1 GG HD4' FA4 FB4 HB4 S4
            generalize v4.alloc _ = v5 at HD5' FA5 FB5 HB5 S5 g1n g2n ⊢
            refine hK.out _ _ S5.out ?_
            clear hK K
            try simp only [Act.put, List.setIfInBounds_toArray, List.set_cons_zero, List.set_cons_succ]
            refine restS_lone (i := 26) rfl (by kernel_rfl) (by rfl) (fun K hK => ?_)
            go_simp
            refine (KI.out.mac v5 G F' sa1 (2 * q + 1) none 0 0 [] (some ⟨g1, 0, none⟩) 1 1 [Xq] HD5'.out.p HNa.out (by omega) (besNil _ _) (by omega) (besL_at g1n.out.row g1n.out.nP (HD5'.out.besP (range_rdB S5.out.1 hb1) LX.out (Nat.le_refl _))) (by omega) (by rw [show [Xq].flatten = Xq by simp, LX.out]; omega)).mono ?_
            rw [show [Xq].flatten = Xq by simp, ← HDs.out, ← Hsa2.out]
            rintro e v6 ⟨rfl, F'', hO, hF', hC⟩
            have HD6' := Lib.hid (HD5'.out.stepP KI.out.toKept hO hF' hC)
            have FA6 := Lib.hid (FA5.out.stepP hF' hC)
            have FB6 := Lib.hid (FB5.out.stepP hF' hC)
            have bl := ch_belowB hC HD5'.out.pB HD5'.out.bw
            have HB6 := Lib.hid (Below.trans HB5.out bl)
            have S6 := Lib.hid (And.intro (range_below S5.out.1 hb1 bl) (range_below S5.out.2 hb2 bl))
            replace g2n := Lib.hid (g2n.out.stepP hF' hC)
            clear hO hF' hC bl HB5 S5 HD5' FA5 FB5 g1n
            refine hK.out _ _ S6.out ?_
            clear hK K
            try simp only [Act.put, List.setIfInBounds_toArray, List.set_cons_zero, List.set_cons_succ]
          all_goals
            refine restS_lone (i := 33) rfl (by kernel_rfl) (by rfl) (fun K hK => ?_)
            go_simp
            refine (KI.out.mac v6 R F2' sb1 (2 * q + 1) none 0 0 [] (some ⟨g2, 0, none⟩) 1 1 [Yq] HD6'.out.r HNb.out (by omega) (besNil _ _) (by omega) (besL_at g2n.out.row g2n.out.nR (HD6'.out.besR (range_rdB S6.out.2 hb2) LY.out (Nat.le_refl _))) (by omega) (by rw [show [Yq].flatten = Yq by simp, LY.out]; omega)).mono ?_
            rw [show [Yq].flatten = Yq by simp, ← HDs2.out, ← Hsb2.out]
            rintro e v7 ⟨rfl, F2'', hO, hF', hC⟩
            have HD7' := Lib.hid (HD6'.out.stepR KI.out.toKept hO hF' hC)
            have FA7' := Lib.hid (FA6.out.stepR hF' hC)
            have FB7' := Lib.hid (FB6.out.stepR hF' hC)
            have bl := ch_belowB hC HD6'.out.rB HD6'.out.bw
            have HB7 := Lib.hid (Below.trans HB6.out bl)
            have S7' := Lib.hid (And.intro (range_below S6.out.1 hb1 bl) (range_below S6.out.2 hb2 bl))
            clear hO hF' hC bl HB6 S6 HD6' FA6 FB6
            refine hK.out _ _ S7'.out ?_
            clear hK K
            try simp only [Act.put, List.setIfInBounds_toArray, List.set_cons_zero, List.set_cons_succ]
            refine restS_take (i := 34) S7'.out rfl (by kernel_rfl) (by kernel_rfl) (by kernel_rfl) (by rfl) (fun v hv => ne_arr Ds 34 64 u64s gt64 HDl.out (.tmp 120) (.tmp 127) rfl rfl v) ?_
            try simp only [Act.put, List.setIfInBounds_toArray, List.set_cons_zero, List.set_cons_succ]
            refine restS_take (i := 35) S7'.out rfl (by kernel_rfl) (by kernel_rfl) (by kernel_rfl) (by rfl) (fun v hv => by go_simp; try with_reducible rfl) ?_
            try simp only [Act.put, List.setIfInBounds_toArray, List.set_cons_zero, List.set_cons_succ]
            refine restS_done (by kernel_rfl) ?_
            go_wp2
            exact ⟨⟨q + 1, sa2, sb2, F'', F2'', by simp, by omega, HPar2.out, HN2.out, HD7'.out, ⟨FA7'.out, FB7'.out⟩, HB7.out⟩, by simp [intOf]; omega⟩
        · have bi : ¬ (q : Int) < (i : Int) := by omega
          obtain rfl : q = i := by omega
          go_wp2_with fail
          refine (KI.out.bad wr G F sa HD.out.p).mono ?_
          rintro e y1 ⟨rfl, hg⟩
          have E1 := Lib.hid (HD.out.grow KI.out.toKept hg)
          have B1 := Lib.hid (Below.trans HB.out (Below.mono hg HD.out.bw))
          clear hg
          go_wp2_with fail
          refine (KI.out.bad y1 R F2 sb E1.out.r).mono ?_
          rintro e y2 ⟨rfl, hg⟩
          rw [show idealM.bad sa = idealM.bad sb from HPar.out.bad]
          have E2 := Lib.hid (E1.out.grow KI.out.toKept hg)
          have B2 := Lib.hid (Below.trans B1.out (Below.mono hg E1.out.bw))
          clear hg E1 B1
          generalize idealM.bad sb = bb
          go_wp2_with fail
          refine (KI.out.queries y2 G F sa (2 * q) E2.out.p HNm.out.1 (by omega)).mono ?_
          rintro e y3 ⟨rfl, hg⟩
          have E3 := Lib.hid (E2.out.grow KI.out.toKept hg)
          have B3 := Lib.hid (Below.trans B2.out (Below.mono hg E2.out.bw))
          clear hg E2 B2
          go_wp2_with fail
          refine (KI.out.queries y3 R F2 sb (2 * q) E3.out.r HNm.out.2 (by omega)).mono ?_
          rw [show idealM.cnt sa = idealM.cnt sb from HPar.out.cnt]
          rintro e y4 ⟨rfl, hg⟩
          have B4 := Lib.hid (Below.trans B3.out (Below.mono hg E3.out.bw))
          clear hg E3 B3
          generalize idealM.cnt sb = cc
          go_wp2
          go_ret
          exact ⟨by simp, B4.out⟩
end Go.Proofs.Ytjklgmhaebjjaaa.S12
