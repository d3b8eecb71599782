/-
  The reference's Draw, inside its oracle. The reference's Function, inside its oracle.
-/
import Derived.Test.YtjklgmhaebjjaaaGreatMgOidealMain12
namespace Go.Proofs.YtjklgmhaebjjaaaGreat.S12
open S11
open Go.RowKit
set_option linter.unusedVariables false
set_option linter.unusedSimpArgs false

set_option maxHeartbeats 4000000 in
theorem orDraw_any (B base R : Nat) (Af Ap : Option Addr) (st : St) (n : Int) (w : World) (hB : B ≤ base) (hn : n ≤ 1000) (h : Ro w B base R Af Ap st) :
    Calls Tryz.prog 36 #[.pointer (some ⟨R, 1, none⟩), .int .i64 n] w fun e w' => e = .returned (.string ⟨(drOp st n).1.toArray⟩) ∧ Ro w' B base R Af Ap (drOp st n).2 ∧ Ch (fun k => k = R) w w' := by
  have H0 := Lib.hid h
  have HLT := Lib.hid (show ∀ k, RF R Af Ap k → k < w.heap.size from fun k hk => (h.lt k hk).2)
  have HB := Lib.hid (show B ≤ w.heap.size by have := h.lt R (.inl rfl); omega)
  clear h
  go_enter Tryz.func36, Tryz.ntmps36
  go_wp2
  go_loopw [5, 6] (fun v5 v6 wr => ∃ (i : Nat) (A5 : Option Addr) (c5 : Nat), v5 = .slice A5 i c5 ∧ v6 = .int .i64 (i : Int) ∧ i ≤ n.toNat ∧ Hid (Own wr w.heap.size A5 c5 (drawO st.seed i)) ∧ Hid (Ro wr B base R Af Ap (dropS st i)) ∧ Hid (Ch (fun k => k = R) w wr)) (fun _ v6 _ => n.toNat - (intOf v6).toNat)
  case atStart => exact ⟨0, none, 0, rfl, rfl, Nat.zero_le _, Own.nil _ _, H0.out, Ch.refl _ _⟩
  case round =>
    clear H0
    obtain ⟨i, A5, c5, rfl, rfl, hi, HO, HZ, HC⟩ := hrel
    obtain ⟨hb, hap, A, n0, c, cf, cp, hR, hn0, hn0c, hrd, _, _⟩ := HZ.out
    have HR := Lib.hid hR
    have Hrd := Lib.hid hrd
    have Hn0 := Lib.hid hn0
    have Hap := Lib.hid hap
    by_cases hlt : (i : Int) < n
    · have hc0 : wr.cell? ⟨R, 1, none⟩ = some (.slice A n0 c) := cell_of_row wr R 1 _ _ (0, 0) hR
      have hf0 : wr.frozen? ⟨R, 1, none⟩ = false := frozen_of_row wr R 1 _ _ hR
      clear hR hrd hn0 hap
      have HOl := Lib.hid (show (drawO st.seed i).length = i from drawO_len _ _)
      have Hsz := Lib.hid (show w.heap.size ≤ wr.heap.size from HC.out.size)
      by_cases h0 : n0 = 0
      · subst h0
        have HX := Lib.hid (show drawO st.seed i ++ [0] = drawO st.seed (i + 1) by
          rw [drawO_succ]
          congr 2
          have := Hn0.out
          simp only [dropS, List.length_drop] at this
          simp [gz, List.getD_eq_getElem?_getD, List.getElem?_eq_none (show st.seed.length ≤ i by omega)])
        have HE := Lib.hid (show dropS st (i + 1) = dropS st i by
          have := Hn0.out
          simp only [dropS, List.length_drop] at this
          simp only [dropS]
          rw [List.drop_of_length_le (show st.seed.length ≤ i by omega), List.drop_of_length_le (show st.seed.length ≤ i + 1 by omega)])
        go_wp2_with (first
          | (at_builtin
             refine wpList_app rfl (.tmp 33) (.tmp 35) rfl (base := w.heap.size) (l := drawO st.seed i) (by rw [HOl.out]; rfl) (HO.out.grow (alloc_below wr _)) (l2 := [0]) rfl ((Row.new wr [0]).rd (Nat.lt_succ_self _)) (by rw [HOl.out]; simp; omega) (by have := Hsz.out; simp; omega) (drawO st.seed (i + 1)) HX.out ?_
             intro A9 c9 w9 ho9 hb9
             rw [show (drawO st.seed (i + 1)).length = i + 1 from drawO_len _ _]
             have O9 := Lib.hid ho9
             have B9 := Lib.hid (show Below w.heap.size wr w9 from ((Below.refl _ _).alloc Hsz.out _).trans hb9)
             clear ho9 hb9))
        go_roundw
        case rel =>
          refine ⟨i + 1, A9, c9, rfl, by go_num, by omega, O9.out, ?_, ?_⟩
          · show Ro w9 B base R Af Ap (dropS st (i + 1))
            rw [HE.out]
            exact HZ.out.keep (fun k hk => B9.out.block k (by have := HB.out; omega)) (fun k hk => B9.out.block k (HLT.out k hk))
          · exact Ch.then HC.out (Ch.below B9.out) (fun k hk hk2 => by omega)
        case measure => simp [intOf]; omega
      · obtain ⟨x, hx⟩ : ∃ x, x = gz st.seed i := ⟨_, rfl⟩
        have hil : i < st.seed.length := by have := Hn0.out; simp only [dropS, List.length_drop] at this; omega
        obtain ⟨b, o, hA, hbB, hcx⟩ := Hrd.out.at_ (k := 0) (by simp only [dropS, List.length_drop]; omega)
        have hcx2 : wr.cell? ⟨b, o, none⟩ = some (.int .u8 (x.toNat : Int)) := by
          rw [Nat.add_zero] at hcx
          rw [hcx, hx]
          simp [dropS, gz, hil]
        have HX := Lib.hid (show drawO st.seed i ++ [x] = drawO st.seed (i + 1) by rw [drawO_succ, hx])
        obtain ⟨A2, hA2⟩ : ∃ A2, A2 = if c = 1 then A else A.map (·.add 1) := ⟨_, rfl⟩
        obtain ⟨n2, hn2⟩ : ∃ n2, n2 = n0 - 1 := ⟨_, rfl⟩
        obtain ⟨c2, hc2⟩ : ∃ c2, c2 = c - 1 := ⟨_, rfl⟩
        have hsl : ∀ V : World, (Instr.slice 22 (.slice A n0 c) (some (.int .i64 1)) none none).run Tryz.prog V = .ok (.slice A2 n2 c2) V := fun V => by rw [hA2, hn2, hc2]; exact cut_one V A n0 c (by omega)
        have HZ2 := Lib.hid (show Ro (wr.setCell ⟨R, 1, none⟩ (.slice A2 n2 c2)) B base R Af Ap (dropS st (i + 1)) by
          have h1 := HZ.out.setSeed hB (A2 := A2) (n2 := n2) (c2 := c2) (s2 := (dropS st i).seed.drop 1) (by rw [List.length_drop, Hn0.out, hn2]) (by omega) (by
            have := Hrd.out.cut (k := 1) (cap := c) (by rw [Hn0.out]; exact hn0c)
            rw [hA2]
            exact this)
          have e : dropS st (i + 1) = { dropS st i with seed := (dropS st i).seed.drop 1 } := by simp only [dropS, List.drop_drop]
          rw [e]
          exact h1)
        have hn0p : (0 : Int) < (n0 : Int) := by omega
        have hgt : (n0 : Int) > 0 := hn0p
        subst hA
        have HC2 := Lib.hid (show Ch (fun k => k = R) w (wr.setCell ⟨R, 1, none⟩ (.slice A2 n2 c2)) from Ch.setCell HC.out (p := ⟨R, 1, none⟩) (.inl rfl) _)
        have HO2 := Lib.hid (show Own (wr.setCell ⟨R, 1, none⟩ (.slice A2 n2 c2)) w.heap.size A5 c5 (drawO st.seed i) from by
          refine World.ownsRow.kept HO.out (row := some R) ⟨rfl, rfl, rfl, by simp, fun k _ hne => heap_setCell_other wr ⟨R, 1, none⟩ k _ (fun e => hne (by simp [e]))⟩ ?_
          rcases HO.out.form with ⟨e, _⟩ | ⟨g, cur, e, hg, _⟩
          · left; rw [e]; rfl
          · right; rw [e]; simp [Value.ownBlock]; have := HLT.out R (.inl rfl); omega)
        have Hsz2 := Lib.hid (show w.heap.size ≤ (wr.setCell ⟨R, 1, none⟩ (.slice A2 n2 c2)).heap.size by have := Hsz.out; simpa using this)
        have HSz := Lib.hid (show (wr.setCell ⟨R, 1, none⟩ (.slice A2 n2 c2)).heap.size = wr.heap.size by simp)
        clear hx hcx hA2 hn2 hc2 HZ HC HO Hrd HR Hn0 h0
        go_wp2_with (first
          | (at_builtin
             refine wpList_app rfl (.tmp 33) (.tmp 35) rfl (base := w.heap.size) (l := drawO st.seed i) (by rw [HOl.out]; rfl) (HO2.out.grow (alloc_below _ _)) (l2 := [x]) rfl (by have h7 := (Row.new (wr.setCell ⟨R, 1, none⟩ (.slice A2 n2 c2)) [x]).rd (Nat.lt_succ_self _); rw [HSz.out] at h7; exact h7) (by rw [HOl.out]; simp; omega) (by have := Hsz2.out; simp at *; omega) (drawO st.seed (i + 1)) HX.out ?_
             intro A9 c9 w9 ho9 hb9
             rw [show (drawO st.seed (i + 1)).length = i + 1 from drawO_len _ _]
             have O9 := Lib.hid ho9
             have B9 := Lib.hid (show Below w.heap.size (wr.setCell ⟨R, 1, none⟩ (.slice A2 n2 c2)) w9 from ((Below.refl _ _).alloc Hsz2.out _).trans hb9)
             clear ho9 hb9))
        go_roundw
        case rel =>
          refine ⟨i + 1, A9, c9, rfl, by go_num, by omega, O9.out, ?_, ?_⟩
          · exact HZ2.out.keep (fun k hk => B9.out.block k (by have := HB.out; omega)) (fun k hk => B9.out.block k (HLT.out k hk))
          · exact Ch.then HC2.out (Ch.below B9.out) (fun k hk hk2 => by omega)
        case measure => simp [intOf]; omega
    · clear hR hrd hn0 hap
      have hin : i = n.toNat := by omega
      have HOf := Lib.hid (show Own wr w.heap.size A5 c5 (drawO st.seed i) from HO.out)
      have HOl := Lib.hid (show (drawO st.seed i).length = i from drawO_len _ _)
      have hcv := conv HO.out.rd c5
      rw [HOl.out] at hcv
      have HF := Lib.hid (show Ro wr B base R Af Ap (drOp st n).2 ∧ Ch (fun k => k = R) w wr from ⟨by rw [hin] at HZ; exact HZ.out, HC.out⟩)
      have HS := Lib.hid (show drawO st.seed i = (drOp st n).1 by rw [hin]; rfl)
      clear HZ HC HO HOf hin
      go_wp2
      go_ret
      exact ⟨by rw [← HS.out]; rfl, HF.out⟩
end Go.Proofs.YtjklgmhaebjjaaaGreat.S12
namespace Go.Proofs.YtjklgmhaebjjaaaGreat.S12
open S11
open Go.RowKit
set_option linter.unusedVariables false
set_option linter.unusedSimpArgs false

set_option maxHeartbeats 4000000 in
theorem orFn_any (B base R : Nat) (Af Ap : Option Addr) (st : St) (name q : List UInt8) (n : Int) (w : World) (hB : B ≤ base) (hbw : base ≤ w.heap.size) (hn : n ≤ 1000) (hfs : st.fs.length ≤ 1000) (hcnt : st.cnt ≤ 1000) (h : Ro w B base R Af Ap st) :
    Calls Tryz.prog 28 #[.pointer (some ⟨R, 1, none⟩), .string ⟨name.toArray⟩, .string ⟨q.toArray⟩, .int .i64 n] w fun e w' =>
      e = .returned (.string ⟨(fnOp st name q n).1.toArray⟩) ∧ ∃ Af', (Ro w' B base R Af' Ap (fnOp st name q n).2) ∧ Ch (RF R Af Ap) w w' ∧ Moved w Af Af' := by
  have H0 := Lib.hid h
  obtain ⟨hb, hap, A, n0, c, cf, cp, hR, hn0, hn0c, hrd, hof, hop⟩ := h
  obtain ⟨nf, hnf⟩ : ∃ nf, nf = st.fs.length := ⟨_, rfl⟩
  rw [← hnf] at hR
  have HNF := Lib.hid hnf
  have HOF := Lib.hid hof
  have hc1 : w.cell? ⟨R, 2, none⟩ = some (.slice Af nf cf) := cell_of_row w R 2 _ _ (0, 0) hR
  have HR := Lib.hid hR
  have hlef : nf ≤ cf := by have := hof.le; omega
  have hnf1 : nf ≤ 1000 := by omega
  clear hb hap hR hn0 hn0c hrd hof hop hnf hfs
  go_enter Tryz.func28, Tryz.ntmps28
  go_wp2
  go_loopw [9] (fun v9 wr => ∃ (i : Nat), v9 = .int .i64 (i : Int) ∧ i ≤ nf ∧ wr = w ∧ Hid (∀ j (h : j < st.fs.length), j < i → hitF name q st.fs[j] = false)) (fun v9 _ => nf - (intOf v9).toNat)
  case atStart => exact ⟨0, rfl, Nat.zero_le _, rfl, fun j _ hj => by omega⟩
  case round =>
    obtain ⟨i, rfl, hi, hw, HN⟩ := hrel
    replace hw := hw.symm
    subst hw
    by_cases hlt : i < nf
    · have bi : (i : Int) < (nf : Int) := by omega
      have hif : i < st.fs.length := by have := HNF.out; omega
      obtain ⟨g, hAf, hg, k1, k2, k3⟩ := HOF.out.at_ i hif
      obtain ⟨t, ht⟩ : ∃ t, t = st.fs[i] := ⟨_, rfl⟩
      rw [← ht] at k1 k2 k3
      subst hAf
      have HT := Lib.hid ht
      clear ht
      by_cases e1 : t.n = name
      · by_cases e2 : t.x = q
        · have HH := Lib.hid (show fnOp st name q n = (t.y, st) by
            have hfd : st.fs.find? (hitF name q) = some t := by
              rw [List.find?_eq_some_iff_getElem]
              refine ⟨by simp [hitF, e1, e2], i, hif, HT.out.symm, fun j hj => by simp [HN.out j (by omega) hj]⟩
            unfold fnOp
            rw [hfd])
          have HM := Lib.hid (show ∃ Af', Ro w B base R Af' Ap (fnOp st name q n).2 ∧ Ch (RF R (some ⟨g, 0, none⟩) Ap) w w ∧ Moved w (some ⟨g, 0, none⟩) Af' from ⟨some ⟨g, 0, none⟩, by rw [HH.out]; exact H0.out, Ch.refl _ _, .inl rfl⟩)
          have b1 : (t.n == name) = true := by simp [e1]
          have b2 : (t.x == q) = true := by simp [e2]
          clear e1 e2
          go_wp2
          go_ret
          exact ⟨by rw [HH.out]; rfl, HM.out⟩
        · have HX := Lib.hid (show hitF name q t = false by simp [hitF, e2])
          have b1 : (t.n == name) = true := by simp [e1]
          have b2 : (t.x == q) = false := by simp [e2]
          have HE1 := Lib.hid e1
          clear e1 e2
          go_wp2
          go_roundw
          case rel => exact ⟨i + 1, by go_num, by omega, (by first | rfl | trivial), fun j hj hj1 => by
            by_cases c : j < i
            · exact HN.out j hj c
            · obtain rfl : j = i := by omega
              rw [← HT.out]; exact HX.out⟩
          case measure => simp [intOf]; omega
      · have HX := Lib.hid (show hitF name q t = false by simp [hitF, e1])
        have b1 : (t.n == name) = false := by simp [e1]
        clear e1
        go_wp2
        go_roundw
        case rel => exact ⟨i + 1, by go_num, by omega, (by first | rfl | trivial), fun j hj hj1 => by
          by_cases c : j < i
          · exact HN.out j hj c
          · obtain rfl : j = i := by omega
            rw [← HT.out]; exact HX.out⟩
        case measure => simp [intOf]; omega
    · have bi : ¬ (i : Int) < (nf : Int) := by omega
      have HNo := Lib.hid (show st.fs.find? (hitF name q) = none by
        rw [List.find?_eq_none]
        intro t ht
        obtain ⟨j, hj, rfl⟩ := List.getElem_of_mem ht
        have := HN.out j hj (by have := HNF.out; omega)
        simp [this])
      go_wp2_with fail
      refine (orDraw_any B base R Af Ap st n w hB hn H0.out).mono ?_
      rintro e w1 ⟨rfl, hz1, hch1⟩
      obtain ⟨y, hy⟩ : ∃ y, y = (drOp st n).1 := ⟨_, rfl⟩
      obtain ⟨s1, hs1⟩ : ∃ s1, s1 = (drOp st n).2 := ⟨_, rfl⟩
      rw [← hy]
      rw [← hs1] at hz1
      have HY := Lib.hid hy
      have HS1 := Lib.hid hs1
      have Z1 := Lib.hid hz1
      have C1 := Lib.hid (show Ch (RF R Af Ap) w w1 from ⟨hch1.os, hch1.tape, hch1.output, hch1.size, fun k hk hf => hch1.block k hk (fun e => hf (.inl e))⟩)
      clear hy hs1 hz1 hch1
      have HFS := Lib.hid (show s1.fs = st.fs by rw [HS1.out]; rfl)
      have HPS := Lib.hid (show s1.ps = st.ps by rw [HS1.out]; rfl)
      have HBD := Lib.hid (show s1.bad = st.bad by rw [HS1.out]; rfl)
      have HCN := Lib.hid (show s1.cnt = st.cnt by rw [HS1.out]; rfl)
      clear hc1 HR HOF HN
      go_wp2
      go_loopw [11] (fun v11 wr => ∃ (j : Nat) (bad : Bool), v11 = .int .i64 (j : Int) ∧ j ≤ nf ∧ Hid (bad = (st.bad || (st.fs.take j).any (badF name y))) ∧ Hid (Ro wr B base R Af Ap { s1 with bad := bad }) ∧ Hid (Ch (RF R Af Ap) w wr)) (fun v11 _ => nf - (intOf v11).toNat)
      case atStart => exact ⟨0, st.bad, rfl, Nat.zero_le _, by show st.bad = _; simp, by have := Z1.out; rw [← HBD.out]; exact this, C1.out⟩
      case round =>
        clear Z1 C1
        obtain ⟨j, bad, rfl, hj, HBad, HZ, HC⟩ := hrel
        obtain ⟨hb, hap, A', n0', c', cf', cp', hR, hn0', hn0c', hrd', hof', hop'⟩ := HZ.out
        have hfl : s1.fs.length = nf := by rw [HFS.out]; exact HNF.out.symm
        have hR2 : wr.heap[R]? = some (.cells (OzC A' n0' c' Af nf cf' Ap s1.ps.length cp' bad (s1.cnt : Int)) 33 (0, 0)) := by rw [← hfl]; exact hR
        have hc1 : wr.cell? ⟨R, 2, none⟩ = some (.slice Af nf cf') := cell_of_row wr R 2 _ _ (0, 0) hR2
        have hc3 : wr.cell? ⟨R, 4, none⟩ = some (.bool bad) := cell_of_row wr R 4 _ _ (0, 0) hR2
        have hf3 : wr.frozen? ⟨R, 4, none⟩ = false := frozen_of_row wr R 4 _ _ hR2
        have hlef' : nf ≤ cf' := by have := hof'.le; simp only at this; omega
        have HR2 := Lib.hid hR2
        have HOF := Lib.hid hof'
        clear hb hap hR hR2 hn0' hn0c' hrd' hop' hof' hfl
        by_cases hlt2 : j < nf
        · have bj : (j : Int) < (nf : Int) := by omega
          have hjf : j < s1.fs.length := by rw [HFS.out]; have := HNF.out; omega
          obtain ⟨g, hAf, hg, k1, k2, k3⟩ := HOF.out.at_ j hjf
          obtain ⟨t, ht⟩ : ∃ t, t = s1.fs[j] := ⟨_, rfl⟩
          have k1' : wr.cell? ⟨g, j * 3, none⟩ = some (.string ⟨t.n.toArray⟩) := by rw [ht]; exact k1
          have k3' : wr.cell? ⟨g, j * 3 + 2, none⟩ = some (.string ⟨t.y.toArray⟩) := by rw [ht]; exact k3
          have HTk := Lib.hid (show (st.fs.take (j + 1)).any (badF name y) = ((st.fs.take j).any (badF name y) || badF name y t) by
            have hj2 : j < st.fs.length := by have := HNF.out; omega
            rw [List.take_succ_eq_append_getElem hj2, List.any_append]
            have e : st.fs[j] = t := by rw [ht]; simp only [HFS.out]
            simp [e])
          subst hAf
          clear ht k1 k2 k3 hjf
          by_cases e1 : t.n = name
          · by_cases e2 : t.y = y
            · have HX := Lib.hid (show badF name y t = true by simp [badF, e1, e2])
              have b1 : (t.n == name) = true := by simp [e1]
              have b2 : (t.y == y) = true := by simp [e2]
              have HZ2 := Lib.hid (show Ro (wr.setCell ⟨R, 4, none⟩ (.bool true)) B base R (some ⟨g, 0, none⟩) Ap { s1 with bad := true } from HZ.out.setBad hB true)
              have HC2 := Lib.hid (Ch.setCell HC.out (p := ⟨R, 4, none⟩) (.inl (.inl rfl)) (.bool true))
              clear e1 e2 HZ HC
              go_wp2
              go_roundw
              case rel => exact ⟨j + 1, true, by go_num, by omega, by show true = _; rw [HTk.out, HX.out]; simp, HZ2.out, HC2.out⟩
              case measure => simp [intOf]; omega
            · have HX := Lib.hid (show badF name y t = false by simp [badF, e2])
              have b1 : (t.n == name) = true := by simp [e1]
              have b2 : (t.y == y) = false := by simp [e2]
              clear e1 e2
              go_wp2
              go_roundw
              case rel => exact ⟨j + 1, bad, by go_num, by omega, by show bad = _; rw [HTk.out, HX.out, HBad.out]; simp, HZ.out, HC.out⟩
              case measure => simp [intOf]; omega
          · have HX := Lib.hid (show badF name y t = false by simp [badF, e1])
            have b1 : (t.n == name) = false := by simp [e1]
            clear e1
            go_wp2
            go_roundw
            case rel => exact ⟨j + 1, bad, by go_num, by omega, by show bad = _; rw [HTk.out, HX.out, HBad.out]; simp, HZ.out, HC.out⟩
            case measure => simp [intOf]; omega
        · have bj : ¬ (j : Int) < (nf : Int) := by omega
          obtain ⟨kc, hkc⟩ : ∃ kc, kc = s1.cnt := ⟨_, rfl⟩
          have hkb : kc ≤ 1000 := by rw [hkc, HCN.out]; exact hcnt
          have hc4 : wr.cell? ⟨R, 5, none⟩ = some (.int .i64 (kc : Int)) := by rw [hkc]; exact cell_of_row wr R 5 _ _ (0, 0) HR2.out
          have hf4 : wr.frozen? ⟨R, 5, none⟩ = false := frozen_of_row wr R 5 _ _ HR2.out
          obtain ⟨s2, hs2⟩ : ∃ s2 : St, s2 = ⟨s1.seed, s1.fs, s1.ps, bad, kc + 1⟩ := ⟨_, rfl⟩
          have HS2 := Lib.hid hs2
          have HKC := Lib.hid hkc
          have HZ5 := Lib.hid (show Ro (wr.setCell ⟨R, 5, none⟩ (.int .i64 ((kc : Int) + 1))) B base R Af Ap s2 by
            have := HZ.out.setCnt hB (kc + 1)
            rw [hs2]
            rw [show (((kc + 1 : Nat)) : Int) = (kc : Int) + 1 by omega] at this
            exact this)
          have HC5 := Lib.hid (Ch.setCell HC.out (p := ⟨R, 5, none⟩) (.inl (.inl rfl)) (.int .i64 ((kc : Int) + 1)))
          have HSz := Lib.hid (show (wr.setCell ⟨R, 5, none⟩ (.int .i64 ((kc : Int) + 1))).heap.size = wr.heap.size by simp)
          have HL2 := Lib.hid (show s2.fs.length = nf by rw [hs2]; show s1.fs.length = nf; rw [HFS.out]; exact HNF.out.symm)
          obtain ⟨T, hT⟩ : ∃ T : T3, T = ⟨name, q, y⟩ := ⟨_, rfl⟩
          have HT := Lib.hid hT
          obtain ⟨w6, hw6⟩ : ∃ w6, w6 = (wr.setCell ⟨R, 5, none⟩ (.int .i64 ((kc : Int) + 1))).alloc (.cells #[.string ⟨name.toArray⟩, .string ⟨q.toArray⟩, .string ⟨y.toArray⟩] 96) := ⟨_, rfl⟩
          have HA6 := Lib.hid (show Grown (wr.setCell ⟨R, 5, none⟩ (.int .i64 ((kc : Int) + 1))) w6 by rw [hw6]; exact alloc_below _ _)
          have HN6 := Lib.hid (show w6.heap[wr.heap.size]? = some (.cells #[.string ⟨T.n.toArray⟩, .string ⟨T.x.toArray⟩, .string ⟨T.y.toArray⟩] 96 (0, 0)) by
            rw [hw6, hT, ← HSz.out]
            exact heap_alloc_new _ _)
          have HZ6 := Lib.hid (show Ro w6 B base R Af Ap s2 from HZ5.out.keep (fun k hk => HA6.out.block k (by have := HZ5.out.lt R (.inl rfl); omega)) (fun k hk => HA6.out.block k (HZ5.out.lt k hk).2))
          have HC6 := Lib.hid (show Ch (RF R Af Ap) w w6 from Ch.trans HC5.out (Ch.grown HA6.out))
          obtain ⟨cf6, HO6, hc16⟩ : ∃ cf6, Hid (OwnR w6 base Af cf6 s2.fs) ∧ w6.cell? ⟨R, 2, none⟩ = some (.slice Af nf cf6) := by
            obtain ⟨_, _, A6, n6, c6, cf6, cp6, hR6, _, _, _, h4, _⟩ := HZ6.out
            refine ⟨cf6, h4, ?_⟩
            rw [cell_of_row w6 R 2 _ _ (0, 0) hR6, ← HL2.out]
            rfl
          have hb6 : base ≤ w6.heap.size := by have := HZ6.out.lt R (.inl rfl); omega
          have Hw6 := Lib.hid hw6
          have ecf : cf6 = cf' := by
            have h7 : w6.cell? ⟨R, 2, none⟩ = wr.cell? ⟨R, 2, none⟩ := by
              rw [hw6]
              have := HZ5.out.lt R (.inl rfl)
              rw [World.cell?_of_block (a := ⟨R, 2, none⟩) ((Below.heap_alloc _ _ R this.2)), World.cell?_setCell_other _ _ _ _ (by simp)]
            rw [hc16, hc1] at h7
            simpa using h7
          subst ecf
          clear hkc hs2 hT hw6 HC5 HZ5 HA6 HZ HC HR2
          go_wp2_with (first
            | (at_builtin
               rw [← Hw6.out]
               refine wpList_appT rfl (.tmp 99) (.tmp 104) rfl (base := base) (n := nf) (g2 := wr.heap.size) (t := T) HL2.out rfl HO6.out rfl HN6.out (by omega) hb6 ?_
               intro A8 c8 w8 ho8 hg8 hm8
               obtain ⟨hz8, hch8, ⟨u8', hu8⟩, hf8⟩ := HZ6.out.putFs hB hc16 HL2.out hg8 ho8 hm8
               have Z8 := Lib.hid hz8
               have C8 := Lib.hid hch8
               have M8 := Lib.hid hm8
               clear hz8 hch8 ho8 hg8 hm8))
          have HF := Lib.hid (show fnOp st name q n = (y, { s2 with fs := s2.fs ++ [T] }) by
            unfold fnOp
            rw [HNo.out]
            show (drawO st.seed n.toNat, fnNew st name q (drawO st.seed n.toNat) n.toNat) = _
            have hy : drawO st.seed n.toNat = y := HY.out.symm
            rw [hy, HS2.out, HT.out]
            have hb2 : bad = (st.bad || st.fs.any (badF name y)) := by
              have := HBad.out
              rw [List.take_of_length_le (by have := HNF.out; omega)] at this
              exact this
            have hk2 : kc = st.cnt := by rw [← HCN.out]; exact HKC.out
            simp only [fnNew, hb2, hk2, HFS.out, HPS.out]
            rw [HS1.out]
            rfl)
          go_ret
          refine ⟨by rw [HF.out]; rfl, A8, by rw [HF.out]; exact Z8.out, Ch.trans HC6.out C8.out, ?_⟩
          rcases M8.out with e | ⟨x, hx, hx2⟩
          · exact .inl e
          · exact .inr ⟨x, hx, Nat.le_trans HC6.out.size hx2⟩
end Go.Proofs.YtjklgmhaebjjaaaGreat.S12
