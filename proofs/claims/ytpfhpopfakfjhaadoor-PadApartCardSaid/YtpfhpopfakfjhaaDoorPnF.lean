/-
  The program's Fill.
-/
import Derived.Test.YtpfhpopfakfjhaaDoorPnD
import Derived.Test.YtpfhpopfakfjhaaDoorPnE
import Derived.Test.YtpfhpopfakfjhaaDoorOfi
import Derived.Test.YtpfhpopfakfjhaaDoorCvb
namespace Go.Proofs.YtpfhpopfakfjhaaDoor.S10
open Go.RowKit
set_option linter.unusedVariables false
set_option linter.unusedSimpArgs false

theorem own_cap {w : World} {base : Nat} {A : Option Addr} {c : Nat} {l : List UInt8} (h : Own w base A c l) : c ≤ maxLen := by
  have h' : w.ownsRow base 5 1 (.slice A l.length c) l.length (bvs l) := h
  rcases h'.2 with ⟨h1, _⟩ | ⟨g, cap, cur, h1, _, _, _, h2, _⟩
  · simp only [Value.slice.injEq] at h1
    obtain ⟨_, _, rfl⟩ := h1
    exact Nat.zero_le _
  · simp only [Value.slice.injEq] at h1
    obtain ⟨_, _, rfl⟩ := h1
    exact h2

theorem fillI_no {s : List UInt8} {u : Int} (h : fillB s u = false) : fillI s u = [] := by unfold fillI; rw [h]; rfl
theorem fills_nil (w w' : World) (hg : Grown w w') (s : List UInt8) (u : Int) (h : fillB s u = false) : Fills w (fillI s u) 2 (.returned (.tuple #[.slice none 0 0, .int .i64 2])) w' := by
  rw [fillI_no h]
  exact ⟨none, 0, rfl, Nat.le_refl _, Nat.zero_le _, .inl rfl, hg⟩

set_option maxHeartbeats 2000000 in
theorem fillOk : FillOk := by
  intro s n u w hn hl hu1 hu2 hU
  have HN := Lib.hid (nameOk s n w hn hl)
  cases hq : nameB s with
  | false =>
    have hb := Lib.hid (show fillB s u = false by unfold fillB; rw [hq]; rfl)
    rw [hq] at HN
    rw [show (if fillB s u then (0 : Int) else 2) = 2 by rw [hb.out]; rfl]
    go_enter Tryd.func8, Tryd.ntmps8
    go_wp2_with fail
    refine HN.out.mono ?_
    rintro e w1 ⟨rfl, hg⟩
    go_wp2_with fail
    go_ret2
    exact fills_nil w w1 hg s u hb.out
  | true =>
    rw [hq] at HN
    have HC := Lib.hid (fun V (g : Grown w V) => unit_any u V (hU.grow g) hu1 hu2)
    cases hq2 : unitB u with
    | false =>
      have hb := Lib.hid (show fillB s u = false by unfold fillB; have := of_decide_eq_false hq2; rw [hq, decide_eq_false this]; rfl)
      rw [hq2] at HC
      rw [show (if fillB s u then (0 : Int) else 2) = 2 by rw [hb.out]; rfl]
      go_enter Tryd.func8, Tryd.ntmps8
      go_wp2_with fail
      refine HN.out.mono ?_
      rintro e w1 ⟨rfl, hg⟩
      have HG := Lib.hid hg
      clear hg
      go_wp2_with fail
      refine (HC.out w1 HG.out).mono ?_
      rintro e w2 ⟨rfl, rfl⟩
      go_wp2_with fail
      go_ret2
      exact fills_nil w _ HG.out s u hb.out
    | true =>
      rw [hq2] at HC
      have hu := of_decide_eq_true hq2
      have hb := Lib.hid (show fillB s u = true by unfold fillB; rw [hq, decide_eq_true hu]; rfl)
      have hnl := name_len hq
      obtain ⟨k, hk⟩ : ∃ k : Nat, sizeI n u = k := ⟨upN n u.toNat, by unfold sizeI; rw [if_pos (by omega)]; simp⟩
      have hke : k = upN n u.toNat := by unfold sizeI at hk; rw [if_pos (by omega)] at hk; have := hk.symm; rw [Int.toNat_natCast] at this; omega
      have hk2 : k ≤ 128 := by
        rcases hu with rfl | rfl
        · have := up_16 n (by omega); simp at hke; omega
        · have := up_32 n (by omega); simp at hke; omega
      have HZ := Lib.hid (fun V (g : Grown w V) => sizeOk n u V (by omega) (by omega) hu1 hu2 (hU.grow g))
      rw [hk] at HZ
      obtain ⟨S, hS⟩ : ∃ S : ByteArray, S = { data := s.toArray } := ⟨_, rfl⟩
      have hSn : S.size = n := by rw [hS, ← hn]; rfl
      have HS := Lib.hid hS
      have Hn := Lib.hid hn
      have Hk := Lib.hid hke
      rw [← hS] at HN
      rw [← hS]
      clear hS hk hn hke hnl hq
      rw [show (if fillB s u then (0 : Int) else 2) = 0 by rw [hb.out]; rfl]
      go_enter Tryd.func8, Tryd.ntmps8
      go_wp2_with fail
      refine HN.out.mono ?_
      rintro e w1 ⟨rfl, hg⟩
      have HG := Lib.hid hg
      clear hg
      go_wp2_with fail
      refine (HC.out w1 HG.out).mono ?_
      rintro e v ⟨rfl, hv⟩
      subst hv
      obtain ⟨c2, w2, hcv, hc2, hr2, hg2⟩ := conv_new v s S HS.out
      rw [Hn.out] at hcv hc2
      have G2 := Lib.hid (HG.out.trans hg2)
      have R2 := Lib.hid hr2
      clear hr2 hg2
      go_wp2_with fail
      refine (HZ.out w2 G2.out).mono ?_
      rintro e w3 ⟨rfl, hg3⟩
      have G3 := Lib.hid (G2.out.trans hg3)
      have R3 := Lib.hid (R2.out.grow hg3)
      clear hg3
      go_wp2_with fail
      refine (fill_any (some ⟨v.heap.size, 0, none⟩) n c2 s k w3 R3.out Hn.out (by omega) (by omega)).mono ?_
      rintro e w4 ⟨A, c, rfl, ho, hg4⟩
      have hl : Go.Proofs.YtpfhpopfakfjhaaDoor.fillL s ((k : Int)).toNat = fillI s u := by
        unfold fillI
        rw [hb.out, if_pos rfl]
        show s ++ _ = s ++ _
        rw [Int.toNat_natCast, Hk.out, Hn.out]
      rw [hl] at ho ⊢
      have HO := Lib.hid ho
      have G4 := Lib.hid (G3.out.trans hg4)
      clear ho hg4 hl
      go_wp2_with fail
      go_ret2
      exact ⟨A, c, rfl, HO.out.le, own_cap HO.out, HO.out.rd, G4.out⟩
end Go.Proofs.YtpfhpopfakfjhaaDoor.S10
