/-
  The walk of OctetsDigits: digits, and which texts are some, are the reference's; there and back it is itself.
-/
import Derived.Test.YtmcdidmfgjmhiaaHrf
namespace Go.Proofs.Ytmcdidmfgjmhiaa
open Go.RowKit
set_option linter.unusedVariables false

theorem dg_hd : ∀ i : Fin 16, dg (hd i.1) = i.1 := by decide +kernel
theorem hd_dg : ∀ n : Fin 256, dg (UInt8.ofNat n.1) < 16 → hd (dg (UInt8.ofNat n.1)) = UInt8.ofNat n.1 := by decide +kernel
theorem hd_of_dg (c : UInt8) (h : dg c < 16) : hd (dg c) = c := by
  have := hd_dg ⟨c.toNat, u8_lt c⟩
  simp at this
  exact this h
theorem hexL_at (b : List UInt8) : ∀ (k : Nat) (hk : k < b.length), (hexL b).getD (2 * k) 0 = hd (b[k].toNat / 16) ∧ (hexL b).getD (2 * k + 1) 0 = hd (b[k].toNat % 16) := by
  induction b with
  | nil => intro k hk; simp at hk
  | cons x b ih =>
    intro k hk
    have e : hexL (x :: b) = hd (x.toNat / 16) :: hd (x.toNat % 16) :: hexL b := by simp [hexL]
    rw [e]
    cases k with
    | zero => simp
    | succ k =>
      have := ih k (by simpa using hk)
      rw [show 2 * (k + 1) = 2 * k + 1 + 1 by omega]
      simpa using this
theorem good_hex (b : List UInt8) : Good (hexL b) := by
  refine ⟨by rw [hexL_len]; omega, fun k hk => ?_⟩
  rw [hexL_len] at hk
  obtain ⟨h1, h2⟩ := hexL_at b k (by omega)
  unfold good
  rw [h1, h2]
  have hx := u8_lt (b[k]'(by omega))
  have e1 := dg_hd ⟨(b[k]'(by omega)).toNat / 16, by omega⟩
  have e2 := dg_hd ⟨(b[k]'(by omega)).toNat % 16, by omega⟩
  simp only at e1 e2
  rw [e1, e2]
  omega
theorem full_hex (b : List UInt8) : fullL (hexL b) = b := by
  apply List.ext_getElem
  · rw [fullL_len, hexL_len]; omega
  · intro k h1 h2
    obtain ⟨e1, e2⟩ := hexL_at b k h2
    have hx := u8_lt b[k]
    have d1 := dg_hd ⟨b[k].toNat / 16, by omega⟩
    have d2 := dg_hd ⟨b[k].toNat % 16, by omega⟩
    simp only at d1 d2
    simp only [fullL, List.getElem_map, List.getElem_range, val]
    rw [e1, e2, d1, d2]
    apply UInt8.toNat_inj.1
    rw [UInt8.toNat_ofNat']
    omega
theorem hex_full (s : List UInt8) (h : Good s) : hexL (fullL s) = s := by
  have hl : (hexL (fullL s)).length = s.length := by rw [hexL_len, fullL_len]; have := h.1; omega
  apply List.ext_getElem hl
  intro i h1 h2
  have hv : ∀ k, k < s.length / 2 → (val s k).toNat = 16 * dg (s.getD (2 * k) 0) + dg (s.getD (2 * k + 1) 0) := by
    intro k hk
    have hg := h.2 k hk
    unfold good at hg
    unfold val
    rw [UInt8.toNat_ofNat']
    omega
  have key : ∀ k, k < s.length / 2 → (hexL (fullL s)).getD (2 * k) 0 = s.getD (2 * k) 0 ∧ (hexL (fullL s)).getD (2 * k + 1) 0 = s.getD (2 * k + 1) 0 := by
    intro k hk
    obtain ⟨e1, e2⟩ := hexL_at (fullL s) k (by rw [fullL_len]; exact hk)
    have hg := h.2 k hk
    unfold good at hg
    have ef : (fullL s)[k]'(by rw [fullL_len]; exact hk) = val s k := by simp [fullL]
    rw [e1, e2, ef, hv k hk]
    rw [show (16 * dg (s.getD (2 * k) 0) + dg (s.getD (2 * k + 1) 0)) / 16 = dg (s.getD (2 * k) 0) by omega, show (16 * dg (s.getD (2 * k) 0) + dg (s.getD (2 * k + 1) 0)) % 16 = dg (s.getD (2 * k + 1) 0) by omega]
    exact ⟨hd_of_dg _ hg.1, hd_of_dg _ hg.2⟩
  have hev := h.1
  have a1 : ∀ (L : List UInt8) (hi : i < L.length), L.getD i 0 = L[i] := fun L hi => by simp [hi]
  rw [← a1 _ h1, ← a1 _ h2]
  by_cases hp : i % 2 = 0
  · have := (key (i / 2) (by omega)).1
    rwa [show 2 * (i / 2) = i by omega] at this
  · have := (key (i / 2) (by omega)).2
    rwa [show 2 * (i / 2) + 1 = i by omega] at this

set_option maxHeartbeats 4000000 in
theorem digits_small (A : Option Addr) (n c : Nat) (b s : List UInt8) (w : World) (h : Rd w w.heap.size A b) (hn : b.length = n) (hl : n ≤ 300) (m : Nat) (hm : s.length = m) (hl2 : m ≤ 600) :
    Calls Try.prog 6 #[.slice A n c, .string { data := s.toArray }] w (Says w true) := by
  have Hn := Lib.hid hn
  have Hm := Lib.hid hm
  clear hn
  by_cases hG : Good s
  · have HG := Lib.hid hG
    clear hG
    go_enter Try.func6, Try.ntmps6
    go_wp2_with fail
    refine (awake_any _).mono ?_
    rintro e w1 ⟨rfl, hb1⟩
    have S := Lib.hid (h.grow hb1)
    have Hb := Lib.hid (show Grown w w1 from hb1)
    clear hb1 h
    go_wp2_with fail
    refine (unhex_any s m _ Hm.out (by omega)).mono ?_
    rintro e w2 (⟨_, A2, c2, rfl, ho2, hb2⟩ | ⟨hno, _⟩)
    · have X2 := Lib.hid ho2.rd
      replace S := Lib.hid (S.out.grow hb2)
      replace Hb := Lib.hid (Grown.trans Hb.out hb2)
      clear ho2 hb2
      go_wp2_with fail
      refine (refUnhex_any s m _ Hm.out (by omega)).mono ?_
      rintro e w3 (⟨_, A3, c3, rfl, ho3, hb3⟩ | ⟨hno, _⟩)
      · have X3 := Lib.hid ho3.rd
        replace X2 := Lib.hid (X2.out.grow hb3)
        replace S := Lib.hid (S.out.grow hb3)
        replace Hb := Lib.hid (Grown.trans Hb.out hb3)
        clear ho3 hb3
        go_wp2_with fail
        refine (hex_any _ _ _ b _ Hn.out S.out (by omega)).mono ?_
        rintro e w4 ⟨rfl, hb4⟩
        replace X2 := Lib.hid (X2.out.grow hb4)
        replace X3 := Lib.hid (X3.out.grow hb4)
        replace S := Lib.hid (S.out.grow hb4)
        replace Hb := Lib.hid (Grown.trans Hb.out hb4)
        clear hb4
        go_wp2_with fail
        refine (unhex_any (hexL b) (2 * n) _ (by rw [hexL_len, Hn.out]) (by omega)).mono ?_
        rintro e w5 (⟨_, A5, c5, rfl, ho5, hb5⟩ | ⟨hno, _⟩)
        · have Hfh := Lib.hid (full_hex b)
          rw [Hfh.out] at ho5 ⊢
          have X5 := Lib.hid ho5.rd
          replace X2 := Lib.hid (X2.out.grow hb5)
          replace X3 := Lib.hid (X3.out.grow hb5)
          replace S := Lib.hid (S.out.grow hb5)
          replace Hb := Lib.hid (Grown.trans Hb.out hb5)
          clear ho5 hb5
          have cv2 := conv_at X2.out rfl c2 _ (Grown.refl _)
          have cv3 := conv_at X3.out rfl c3 _ (Grown.refl _)
          go_wp2_with fail
          refine (refHex_any _ _ _ b _ Hn.out S.out (by omega)).mono ?_
          rintro e w6 ⟨rfl, hb6⟩
          replace X2 := Lib.hid (X2.out.grow hb6)
          replace S := Lib.hid (S.out.grow hb6)
          replace X5 := Lib.hid (X5.out.grow hb6)
          replace Hb := Lib.hid (Grown.trans Hb.out hb6)
          clear hb6 cv2 cv3
          have cv5 := conv_at X5.out rfl c5 _ (Grown.refl _)
          have cv6 := conv_at S.out Hn.out c _ (Grown.refl _)
          go_wp2_with fail
          refine (hex_any _ _ _ (fullL s) _ rfl X2.out (by rw [fullL_len, Hm.out]; omega)).mono ?_
          rintro e w7 ⟨rfl, hb7⟩
          rw [hex_full s HG.out]
          replace Hb := Lib.hid (Grown.trans Hb.out hb7)
          clear hb7 cv5 cv6
          go_wp2
          go_ret
          exact ⟨rfl, Hb.out⟩
        · exact absurd (good_hex b) hno
      · exact absurd HG.out hno
    · exact absurd HG.out hno
  · have HG := Lib.hid hG
    clear hG
    go_enter Try.func6, Try.ntmps6
    go_wp2_with fail
    refine (awake_any _).mono ?_
    rintro e w1 ⟨rfl, hb1⟩
    have S := Lib.hid (h.grow hb1)
    have Hb := Lib.hid (show Grown w w1 from hb1)
    clear hb1 h
    go_wp2_with fail
    refine (unhex_any s m _ Hm.out (by omega)).mono ?_
    rintro e w2 (⟨hyes, _⟩ | ⟨_, rfl, hb2⟩)
    · exact absurd hyes HG.out
    · replace S := Lib.hid (S.out.grow hb2)
      replace Hb := Lib.hid (Grown.trans Hb.out hb2)
      clear hb2
      go_wp2_with fail
      refine (refUnhex_any s m _ Hm.out (by omega)).mono ?_
      rintro e w3 (⟨hyes, _⟩ | ⟨_, rfl, hb3⟩)
      · exact absurd hyes HG.out
      · replace S := Lib.hid (S.out.grow hb3)
        replace Hb := Lib.hid (Grown.trans Hb.out hb3)
        clear hb3
        go_wp2_with fail
        refine (hex_any _ _ _ b _ Hn.out S.out (by omega)).mono ?_
        rintro e w4 ⟨rfl, hb4⟩
        replace S := Lib.hid (S.out.grow hb4)
        replace Hb := Lib.hid (Grown.trans Hb.out hb4)
        clear hb4
        go_wp2_with fail
        refine (unhex_any (hexL b) (2 * n) _ (by rw [hexL_len, Hn.out]) (by omega)).mono ?_
        rintro e w5 (⟨_, A5, c5, rfl, ho5, hb5⟩ | ⟨hno, _⟩)
        · have Hfh := Lib.hid (full_hex b)
          rw [Hfh.out] at ho5 ⊢
          have X5 := Lib.hid ho5.rd
          replace S := Lib.hid (S.out.grow hb5)
          replace Hb := Lib.hid (Grown.trans Hb.out hb5)
          clear ho5 hb5
          have cv2 : (convert 22 9 (.slice none 0 0)).run Try.prog w5 = .ok (.string { data := #[] }) w5 := conv (Rd.nil w5 0 none) 0
          go_wp2_with fail
          refine (refHex_any _ _ _ b _ Hn.out S.out (by omega)).mono ?_
          rintro e w6 ⟨rfl, hb6⟩
          replace S := Lib.hid (S.out.grow hb6)
          replace X5 := Lib.hid (X5.out.grow hb6)
          replace Hb := Lib.hid (Grown.trans Hb.out hb6)
          clear hb6 cv2
          have cv5 := conv_at X5.out rfl c5 _ (Grown.refl _)
          have cv6 := conv_at S.out Hn.out c _ (Grown.refl _)
          go_wp2
          go_ret
          exact ⟨rfl, Hb.out⟩
        · exact absurd (good_hex b) hno

set_option maxHeartbeats 1000000 in
theorem digits_great (A : Option Addr) (n c : Nat) (s : List UInt8) (w : World) (m : Nat) (hm : s.length = m) (h1 : n ≤ 9223372036854775807) (h2 : m ≤ 9223372036854775807) (h : 300 < n ∨ (n ≤ 300 ∧ 600 < m)) :
    Calls Try.prog 6 #[.slice A n c, .string { data := s.toArray }] w (Says w true) := by
  rcases h with h | ⟨h, h'⟩
  all_goals
    go_enter Try.func6, Try.ntmps6
    go_wp2_with fail
    refine (awake_any _).mono ?_
    rintro e w1 ⟨rfl, hb1⟩
    have Hb1 := Lib.hid hb1
    clear hb1
    go_wp2_with fail
    refine (awake_any _).mono ?_
    rintro e w2 ⟨rfl, hb2⟩
    have Hb2 := Lib.hid hb2
    clear hb2
    go_wp2
    go_ret
    exact ⟨rfl, Grown.trans Hb1.out Hb2.out⟩

theorem digits_walk (A : Option Addr) (n c : Nat) (b : List UInt8) (s : ByteArray) (w : World) (h : Rd w w.heap.size A b) (hn : b.length = n) (hm : n ≤ maxLen) (hs : s.size ≤ maxLen) :
    Calls Try.prog 6 #[.slice A n c, .string s] w (Says w true) := by
  have e : s = { data := s.data.toList.toArray } := by cases s; simp
  have el : s.data.toList.length = s.size := Array.length_toList
  unfold maxLen at hm hs
  rw [e]
  by_cases h1 : n ≤ 300
  · by_cases h2 : s.size ≤ 600
    · exact digits_small A n c b _ w h hn h1 s.size el h2
    · exact digits_great A n c _ w s.size el (by omega) (by omega) (.inr ⟨h1, by omega⟩)
  · exact digits_great A n c _ w s.size el (by omega) (by omega) (.inl (by omega))

end Go.Proofs.Ytmcdidmfgjmhiaa
