/-
  The walk of Base64Signs.
-/
import Derived.Test.YtjpjodjdciamhaaAw2
namespace Go.Proofs.Ytjpjodjdciamhaa
open Go.RowKit
set_option linter.unusedVariables false
set_option linter.unusedSimpArgs false

theorem flat_len (ls : List (List UInt8)) (h : ∀ k, k < ls.length → (ls.getD k []).length ≤ 100) : ls.flatten.length ≤ 100 * ls.length := by
  induction ls with
  | nil => simp
  | cons a ls ih =>
    have h0 := h 0 (by simp)
    have h1 := ih (fun k hk => by have := h (k + 1) (by simp; omega); simpa using this)
    simp only [List.flatten_cons, List.length_append, List.length_cons]
    simp at h0
    omega
theorem lenI_enc (l : List UInt8) : lenI (l.length : Int) = ((encL l).length : Int) := by
  rw [encL_len]
  unfold lenI
  repeat' split
  all_goals omega

set_option maxHeartbeats 4000000 in
theorem signs_walk (A : Option Addr) (k c : Nat) (ls : List (List UInt8)) (n : Int) (w : World) (h : RdL w w.heap.size A ls) (hk : ls.length = k) (hkm : k ≤ 9223372036854775807) (hlo : -9223372036854775808 ≤ n) (hhi : n ≤ 9223372036854775807)
    (hp : ∀ j, j < ls.length → (ls.getD j []).length ≤ 9223372036854775807) :
    Calls Try.prog 3 #[.slice A k c, .int .i64 n] w (Says w true) := by
  have Hk := Lib.hid hk
  have Hp := Lib.hid hp
  clear hk hp
  go_enter Try.func3, Try.ntmps3
  go_wp2_with fail
  refine (awake2 _).mono ?_
  rintro e w1 ⟨rfl, hb1⟩
  have Hb1 := Lib.hid hb1
  have h1 := (h.keep hb1).more hb1.size
  clear hb1 h
  by_cases h20 : k ≤ 20
  · go_wp2
    go_loop [5] (fun i => ∃ t : Nat, t ≤ k ∧ i = .int .i64 (t : Int) ∧ Hid (∀ j, j < t → (ls.getD j []).length ≤ 100)) (fun i => k - (intOf i).toNat)
    case atStart => exact ⟨0, by omega, rfl, fun j hj => by omega⟩
    case round =>
      obtain ⟨t, ht, rfl, Ht⟩ := hrel
      by_cases hlt : t < k
      · have htl : t < ls.length := by have := Hk.out; omega
        obtain ⟨b1, o1, B1, d1, rfl, hbb, hc1, hd1, hr1⟩ := h1.at_ htl
        obtain ⟨m, hm⟩ : ∃ m, m = ls[t].length := ⟨_, rfl⟩
        have hg : (ls.getD t []).length = m := by rw [hm]; simp [htl]
        have hmm : m ≤ 9223372036854775807 := by rw [← hg]; exact Hp.out t htl
        rw [← hm] at hc1
        have Hg := Lib.hid hg
        clear hr1 hd1 hm h1 hg
        by_cases h100 : m ≤ 100
        · go_wp2
          go_round
          case rel =>
            refine ⟨t + 1, by omega, by go_num, fun j hj => ?_⟩
            by_cases hjt : j = t
            · rw [hjt, Hg.out]; exact h100
            · exact Ht.out j (by omega)
          case measure => simp [intOf]; omega
        · go_wp2
          go_ret
          exact ⟨rfl, Hb1.out⟩
      · obtain rfl : k = t := by omega
        have hfl := flat_len ls (fun j hj => Ht.out j (by have := Hk.out; omega))
        have hf2 : ls.flatten.length ≤ 2000 := by have := Hk.out; omega
        obtain ⟨T, hT⟩ : ∃ T, T = ls.flatten := ⟨_, rfl⟩
        rw [← hT] at hf2
        have HT := Lib.hid hT
        obtain ⟨m, hm⟩ : ∃ m, T.length = m := ⟨_, rfl⟩
        obtain ⟨S, hS⟩ : ∃ S : ByteArray, S = { data := (encL T).toArray } := ⟨_, rfl⟩
        obtain ⟨X, hX⟩ : ∃ X : ByteArray, X = ⟨T.toArray⟩ := ⟨_, rfl⟩
        have hSs : (S.size : Int) = lenI (m : Int) := by
          rw [← hm, lenI_enc, hS]
          show ((encL T).toArray.size : Int) = _
          simp
        obtain ⟨K, hK⟩ : ∃ K, S.size = K := ⟨_, rfl⟩
        rw [hK] at hSs
        have HSs := Lib.hid hSs
        have HS := Lib.hid hS
        have HX := Lib.hid hX
        have Hm := Lib.hid hm
        have hm2 : m ≤ 2000 := by rw [← hm]; exact hf2
        have Hf := Lib.hid (show ls.flatten.length ≤ 2000 by rw [← hT]; exact hf2)
        have H1 := Lib.hid h1
        have HK := Lib.hid hK
        clear hT hm hS hX hSs hK hfl hf2 h1
        go_wp2_with fail
        refine (all_any A k c ls _ H1.out Hk.out (by omega) (by have := Hf.out; omega)).mono ?_
        rintro e w2 ⟨A2, c2, rfl, ho2, hb2⟩
        rw [← HT.out] at ho2 ⊢
        rw [Hm.out]
        have Ho2 := Lib.hid ho2
        have Hb2 := Lib.hid hb2
        clear ho2 hb2
        go_wp2_with fail
        refine (encode_dev A k c ls _ ((H1.out.keep Hb2.out).more Hb2.out.size) Hk.out (by omega) (by have := Hf.out; omega)).mono ?_
        rintro e w3 ⟨rfl, hb3⟩
        rw [← HT.out, ← HS.out]
        have Hb3 := Lib.hid hb3
        clear hb3
        go_wp2_with fail
        rw [HS.out]
        refine (decode_dev (encL T) K _ (by rw [← HK.out, HS.out]; show _ = (encL T).toArray.size; simp) (by have h1 := HK.out; have h2 := encL_len T; rw [HS.out] at h1; have h3 : (encL T).toArray.size = K := h1; have h4 := Hm.out; simp at h3; omega)).mono ?_
        rintro e w4 (⟨_, A4, c4, rfl, ho4, hb4⟩ | ⟨hd, _⟩)
        · rw [out_encL] at ho4 ⊢
          rw [Hm.out, ← HS.out]
          have Ho4 := Lib.hid ho4
          have Hb4 := Lib.hid hb4
          clear ho4 hb4
          have Hrd := Lib.hid (Rd.grow (Rd.grow Ho2.out.rd Hb3.out) Hb4.out)
          have hKS := HK.out
          go_wp2_with fail
          refine (encode_any A2 m c2 T _ Hrd.out Hm.out (by omega)).mono ?_
          rintro e w5 ⟨rfl, hb5⟩
          rw [← HS.out]
          have Hb5 := Lib.hid hb5
          have hc2 := conv (Hrd.out.grow hb5) c2
          have hc4 := conv (Rd.grow Ho4.out.rd hb5) c4
          rw [Hm.out, ← HX.out] at hc2 hc4
          clear hb5
          have Hw := Lib.hid (Grown.trans (Grown.trans (Grown.trans (Grown.trans (show Grown w w1 from Hb1.out) (show Grown w1 w2 from Hb2.out)) (show Grown w2 w3 from Hb3.out)) (show Grown w3 w4 from Hb4.out)) (show Grown w4 w5 from Hb5.out))
          go_wp2_with fail
          refine (len_any (m : Int) _ (by omega) (by omega)).mono ?_
          rintro e w6 ⟨rfl, rfl⟩
          rw [← HSs.out]
          clear hc2 hc4
          by_cases hn0 : n > 0
          · go_wp2
            go_ret
            exact ⟨rfl, Hw.out⟩
          · have Hl := Lib.hid (show lenI n = 0 by unfold lenI; rw [if_pos (by omega)])
            go_wp2_with fail
            refine (len_any n _ (by omega) (by omega)).mono ?_
            rintro e w6 ⟨rfl, rfl⟩
            rw [Hl.out]
            go_wp2
            go_ret
            exact ⟨rfl, Hw.out⟩
        · exact absurd (dec_encL T) hd
  · go_wp2_with fail
    refine (awake2 _).mono ?_
    rintro e w2 ⟨rfl, hb2⟩
    have Hb2 := Lib.hid hb2
    clear hb2
    go_wp2
    go_ret
    exact ⟨rfl, Grown.trans (show Grown w w1 from Hb1.out) (show Grown w1 w2 from Hb2.out)⟩
end Go.Proofs.Ytjpjodjdciamhaa
