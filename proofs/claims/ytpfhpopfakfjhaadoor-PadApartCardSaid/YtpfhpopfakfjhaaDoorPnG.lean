/-
  The program's Strip.
-/
import Derived.Test.YtpfhpopfakfjhaaDoorPnF
import Derived.Test.YtpfhpopfakfjhaaDoorPnL
namespace Go.Proofs.YtpfhpopfakfjhaaDoor.S10
open Go.RowKit
set_option linter.unusedVariables false
set_option linter.unusedSimpArgs false

set_option maxHeartbeats 2000000 in
theorem padded_any (m n : Nat) (w : World) (hU : Un w) (hm : m ≤ 300) (hn : n ≤ 300) :
    Calls Tryd.prog 20 #[.int .i64 m, .int .i64 n] w fun e w' => e = .returned (.bool (padB m n)) ∧ Grown w w' := by
  have HZ := Lib.hid (fun V (g : Grown w V) => sizeOk m 16 V (by omega) (by omega) (by omega) (by omega) (hU.grow g))
  have HY := Lib.hid (fun V (g : Grown w V) => sizeOk m 32 V (by omega) (by omega) (by omega) (by omega) (hU.grow g))
  obtain ⟨p, hp⟩ : ∃ p, sizeI m 16 = p := ⟨_, rfl⟩
  obtain ⟨q, hq⟩ : ∃ q, sizeI m 32 = q := ⟨_, rfl⟩
  have HB := Lib.hid (show padB m n = decide (p = (n : Int) ∨ q = (n : Int)) by unfold padB; rw [hp, hq])
  rw [hp] at HZ
  rw [hq] at HY
  clear hp hq
  obtain ⟨hc0, hc1⟩ := hU
  have x0 := ix0
  have x1 := ix1
  go_enter Tryd.func20, Tryd.ntmps20
  go_wp2_with fail
  clear hc0 hc1
  go_loopw [8] (fun i wr => Grown w wr ∧ ∃ k : Nat, i = .int .i64 k ∧ Hid (k = 0 ∨ (k = 1 ∧ p ≠ n) ∨ (k = 2 ∧ p ≠ n ∧ q ≠ n))) (fun i _ => 2 - (intOf i).toNat)
  case atStart => exact ⟨Grown.refl _, 0, rfl, .inl rfl⟩
  case round =>
    obtain ⟨hg, k, rfl, hk⟩ := hrel
    have HG := Lib.hid hg
    clear hg
    rcases hk with rfl | ⟨rfl, h16⟩ | ⟨rfl, h16, h32⟩
    · by_cases h : p = n
      · subst h
        go_wp2_with fail
        refine (HZ.out wr HG.out).mono ?_
        rintro e w1 ⟨rfl, hg⟩
        have HG1 := Lib.hid (HG.out.trans hg)
        clear hg
        go_wp2_with fail
        go_ret
        rw [HB.out]
        exact ⟨by simp, HG1.out⟩
      · have hb : (p == (n : Int)) = false := beq_eq_false_iff_ne.2 h
        go_wp2_with fail
        refine (HZ.out wr HG.out).mono ?_
        rintro e w1 ⟨rfl, hg⟩
        have HG1 := Lib.hid (HG.out.trans hg)
        clear hg
        go_wp2_with fail
        go_roundw
        case rel => exact ⟨HG1.out, 1, by go_num, .inr (.inl ⟨rfl, h⟩)⟩
        case measure => simp [intOf]
    · by_cases h : q = n
      · subst h
        go_wp2_with fail
        refine (HY.out wr HG.out).mono ?_
        rintro e w1 ⟨rfl, hg⟩
        have HG1 := Lib.hid (HG.out.trans hg)
        clear hg
        go_wp2_with fail
        go_ret
        rw [HB.out]
        exact ⟨by simp, HG1.out⟩
      · have hb : (q == (n : Int)) = false := beq_eq_false_iff_ne.2 h
        go_wp2_with fail
        refine (HY.out wr HG.out).mono ?_
        rintro e w1 ⟨rfl, hg⟩
        have HG1 := Lib.hid (HG.out.trans hg)
        clear hg
        go_wp2_with fail
        go_roundw
        case rel => exact ⟨HG1.out, 2, by go_num, .inr (.inr ⟨rfl, h16, h⟩)⟩
        case measure => simp [intOf]
    · have hb := Lib.hid (show padB m n = false by rw [HB.out]; exact decide_eq_false (by omega))
      go_wp2
      go_ret
      rw [hb.out]
      exact ⟨rfl, HG.out⟩

/-- bytes.TrimRight by one zero: it only reads. -/
theorem cutTo (W : World) (A : Option Addr) (m c d : Nat) (h : d ≤ c) : (Instr.slice 23 (.slice A m c) none (some (.int .i64 (d : Int))) none).run Tryd.prog W = .ok (.slice A d c) W := by
  have hle : ((d : Int)).toNat ≤ c := by simpa using h
  go_simp
  done

def lenS : Value → Nat
  | .slice _ n _ => n
  | _ => 0

set_option maxHeartbeats 2000000 in
theorem trim_any (A : Option Addr) (n d : Nat) (b : List UInt8) (w : World) (hn : b.length = n) (hd : n ≤ d) (hl : n ≤ 300) (hB : Rd w w.heap.size A b) :
    Calls Tryd.prog 23 #[.slice A n d, .int .u8 0] w fun e w' => (∃ m, TrimAt b m ∧ e = .returned (.slice A m d)) ∧ w' = w := by
  have Hn := Lib.hid hn
  have HB := Lib.hid hB
  clear hn hB
  go_enter Tryd.func23, Tryd.ntmps23
  go_wp2_with fail
  go_loopw [0] (fun v wr => wr = w ∧ ∃ m : Nat, v = .slice A m d ∧ m ≤ n ∧ Hid (∀ j, m ≤ j → b.getD j 0 = 0)) (fun v _ => lenS v)
  case atStart => exact ⟨rfl, n, rfl, Nat.le_refl _, fun j hj => by rw [List.getD_eq_getElem?_getD, List.getElem?_eq_none (by rw [Hn.out]; exact hj)]; rfl⟩
  case round =>
    obtain ⟨rfl, m, rfl, hm, hz⟩ := hrel
    rcases Nat.eq_zero_or_pos m with rfl | hpos
    · go_wp2_with fail
      go_ret
      exact ⟨⟨0, ⟨Nat.zero_le _, hz.out, fun h => absurd h (Nat.lt_irrefl _)⟩, rfl⟩, rfl⟩
    · obtain ⟨k, rfl⟩ : ∃ k, m = k + 1 := ⟨m - 1, by omega⟩
      have hkl : k < b.length := by rw [Hn.out]; omega
      obtain ⟨g, off, rfl, hg, hc⟩ := HB.out.at_ hkl
      obtain ⟨x, hx⟩ : ∃ x, b[k] = x := ⟨_, rfl⟩
      have hgd : b.getD k 0 = x := by rw [List.getD_eq_getElem?_getD, List.getElem?_eq_getElem hkl, ← hx]; rfl
      have HX := Lib.hid hgd
      rw [hx] at hc
      have hct := cutTo wr (some ⟨g, off, none⟩) (k + 1) d k (by omega)
      clear hx hkl hgd
      by_cases h0 : x = 0
      · subst h0
        have hb : (((0 : UInt8).toNat : Int) == 0) = true := rfl
        go_wp2_with fail
        go_roundw
        case rel =>
          refine ⟨trivial, k, rfl, by omega, fun j hj => ?_⟩
          rcases (show j = k ∨ k + 1 ≤ j by omega) with rfl | h
          · exact HX.out
          · exact hz.out j h
        case measure => simp [lenS]
      · have hb : ((x.toNat : Int) == 0) = false := beq_eq_false_iff_ne.2 (fun e => h0 (UInt8.toNat.inj (by simpa using e)))
        go_wp2_with fail
        go_ret
        exact ⟨⟨k + 1, ⟨by rw [Hn.out]; omega, hz.out, fun _ => by rw [Nat.add_sub_cancel, HX.out]; exact h0⟩, rfl⟩, rfl⟩

set_option maxHeartbeats 2000000 in
set_option maxRecDepth 100000 in
theorem right_any (A : Option Addr) (n d : Nat) (b : List UInt8) (w : World) (hn : b.length = n) (hd : n ≤ d) (hl : n ≤ 300) (hB : Rd w w.heap.size A b) :
    Calls Tryd.prog 19 #[.slice A n d, .string { data := #[0] }] w fun e w' => (∃ m, TrimAt b m ∧ e = .returned (.slice A m d)) ∧ w' = w := by
  have HC := Lib.hid (trim_any A n d b w hn hd hl hB)
  have Hn := Lib.hid hn
  clear hn hB
  rcases Nat.eq_zero_or_pos n with rfl | hpos
  · go_enter Tryd.func19, Tryd.ntmps19
    go_wp2_with fail
    go_ret
    exact ⟨⟨0, ⟨Nat.zero_le _, fun j _ => by rw [List.getD_eq_getElem?_getD, List.getElem?_eq_none (by rw [Hn.out]; omega)]; rfl, fun h => absurd h (Nat.lt_irrefl _)⟩, rfl⟩, rfl⟩
  · have h0 : ((n : Int) == 0) = false := beq_eq_false_iff_ne.2 (by omega)
    go_enter Tryd.func19, Tryd.ntmps19
    go_wp2_with fail
    refine HC.out.mono ?_
    rintro e w1 ⟨⟨m, hm, rfl⟩, rfl⟩
    have HM := Lib.hid hm
    clear hm
    go_wp2_with fail
    go_ret
    exact ⟨⟨m, HM.out, rfl⟩, rfl⟩

set_option maxHeartbeats 2000000 in
theorem stripOk : StripOk := by
  intro B bl d b w hn hd hdm hB hl hU
  have HT := Lib.hid (right_any B bl d b w hn hd hl hB)
  obtain ⟨y, hy⟩ : ∃ y, stripL b = y := ⟨_, rfl⟩
  obtain ⟨o, ho⟩ : ∃ o, stripB b = o := ⟨_, rfl⟩
  have HNo := Lib.hid (show o = false → y = [] from fun h => by rw [← hy]; unfold stripL; rw [ho, h]; rfl)
  have HY := Lib.hid hy
  have HO := Lib.hid ho
  rw [hy, ho]
  clear hy ho
  go_enter Tryd.func14, Tryd.ntmps14
  go_wp2_with fail
  refine HT.out.mono ?_
  rintro e w1 ⟨⟨m, hm, rfl⟩, rfl⟩
  have hs := strip_trim hm
  have hml : m ≤ bl := by rw [← hn]; exact hm.1
  have hlen : (b.take m).length = m := by simp; omega
  obtain ⟨t, ht⟩ : ∃ t, b.take m = t := ⟨_, rfl⟩
  have hr : Rd w1 w1.heap.size B t := by rw [← ht]; exact hB.take m
  rw [ht] at hs hlen
  rw [hn] at hs
  have HP := Lib.hid (padded_any m bl w1 hU (by omega) hl)
  have HN := Lib.hid (fun V => nameOk t m V hlen (by omega))
  have HR := Lib.hid hr
  have HL := Lib.hid hlen
  rw [HY.out, HO.out] at hs
  have hno := HNo.out
  clear hm hB hU hr HT ht hn hlen HNo
  cases hq : padB m bl with
  | false =>
    have hb : o = false := by rw [hs.1, hq]; simp
    have hye := hno hb
    clear hs hno
    subst hb hye
    rw [hq] at HP
    go_wp2_with fail
    refine HP.out.mono ?_
    rintro e w2 ⟨rfl, hg⟩
    go_wp2_with fail
    go_ret2
    exact ⟨rfl, hg⟩
  | true =>
    rw [hq] at HP
    rw [hq, Bool.and_true] at hs
    go_wp2_with fail
    refine HP.out.mono ?_
    rintro e w2 ⟨rfl, hg⟩
    have HG := Lib.hid hg
    have hcv := conv_at (HR.out.grow hg) HL.out d w2 (Grown.refl _)
    clear hg
    obtain ⟨T, hT⟩ : ∃ T : ByteArray, { data := t.toArray } = T := ⟨_, rfl⟩
    rw [hT] at hcv HN
    cases hq2 : nameB t with
    | false =>
      have hb : o = false := by rw [hs.1, hq2]
      have hye := hno hb
      clear hs hno
      subst hb hye
      rw [hq2] at HN
      go_wp2_with fail
      refine (HN.out w2).mono ?_
      rintro e w3 ⟨rfl, hg⟩
      have HG3 := Lib.hid (HG.out.trans hg)
      clear hg
      go_wp2_with fail
      go_ret2
      exact ⟨rfl, HG3.out⟩
    | true =>
      have hb : o = true := by rw [hs.1, hq2]
      have hye := hs.2 hb
      clear hs hno
      subst hb hye
      rw [hq2] at HN
      have HTT := Lib.hid hT
      clear hT
      go_wp2_with fail
      refine (HN.out w2).mono ?_
      rintro e w3 ⟨rfl, hg⟩
      have HG3 := Lib.hid (HG.out.trans hg)
      clear hg
      go_wp2_with fail
      go_ret2
      exact ⟨by rw [HTT.out]; rfl, HG3.out⟩
end Go.Proofs.YtpfhpopfakfjhaaDoor.S10
