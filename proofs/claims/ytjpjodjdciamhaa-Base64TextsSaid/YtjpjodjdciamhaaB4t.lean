/-
  The walk of Base64Texts.
-/
import Derived.Test.YtjpjodjdciamhaaAw2
namespace Go.Proofs.Ytjpjodjdciamhaa
open Go.RowKit
set_option linter.unusedVariables false
set_option linter.unusedSimpArgs false

set_option maxHeartbeats 2000000 in
theorem texts_walk (S : ByteArray) (w : World) (hm : S.size ≤ maxLen) :
    Calls Try.prog 4 #[.string S] w (Says w true) := by
  obtain ⟨n, hn⟩ : ∃ n, S.size = n := ⟨_, rfl⟩
  have hm2 : n ≤ 9223372036854775807 := by unfold maxLen at hm; omega
  clear hm
  have hS : S = { data := S.data.toList.toArray } := by simp
  have hl : S.data.toList.length = n := by rw [← hn]; simp
  obtain ⟨s, hs⟩ : ∃ s : List UInt8, s = S.data.toList := ⟨_, rfl⟩
  rw [← hs] at hS hl
  have HS := Lib.hid hS
  have Hl := Lib.hid hl
  clear hS hl hs
  go_enter Try.func4, Try.ntmps4
  go_wp2_with fail
  refine (awake2 _).mono ?_
  rintro e w1 ⟨rfl, hb1⟩
  have Hb1 := Lib.hid hb1
  clear hb1
  by_cases h300 : n ≤ 300
  · go_wp2_with fail
    rw [HS.out]
    refine (decode_dev s n _ Hl.out (by omega)).mono ?_
    rintro e w2 (⟨hd, A2, c2, rfl, ho2, hb2⟩ | ⟨hd, rfl, hb2⟩)
    · have Hd := Lib.hid hd
      have Ho2 := Lib.hid ho2
      have Hb2 := Lib.hid hb2
      clear hd ho2 hb2
      go_wp2_with fail
      refine (decode_any s n _ Hl.out (by omega)).mono ?_
      rintro e w3 (⟨hd, A3, c3, rfl, ho3, hb3⟩ | ⟨hd, rfl, hb3⟩)
      · clear hd
        have Ho3 := Lib.hid ho3
        have Hb3 := Lib.hid hb3
        clear ho3 hb3
        have hl3 : (outL s).length ≤ 1000 := by rw [outL_len, Hl.out]; omega
        obtain ⟨X, hX⟩ : ∃ X : ByteArray, X = ⟨(outL s).toArray⟩ := ⟨_, rfl⟩
        obtain ⟨k, hk⟩ : ∃ k, (outL s).length = k := ⟨_, rfl⟩
        have hc2 := conv (Ho2.out.rd.grow Hb3.out) c2
        have hc3 := conv Ho3.out.rd c3
        rw [← hX, hk] at hc2 hc3
        rw [hk] at hl3 ⊢
        have Hk := Lib.hid hk
        clear hk hX
        go_wp2_with fail
        refine (encode_one (Ho2.out.rd.grow Hb3.out) Hk.out (by have := Ho2.out.le; rw [Hk.out] at this; exact this) (by omega) (0, 0)).mono ?_
        rintro e w4 ⟨rfl, hb4⟩
        rw [((dec_iff s).1 Hd.out).2]
        have Hb4 := Lib.hid hb4
        clear hb4 hc2 hc3
        go_wp2
        go_ret
        exact ⟨rfl, Grown.trans (Grown.trans (Grown.trans (show Grown w w1 from Hb1.out) (show Grown w1 w2 from Hb2.out)) (show Grown w2 w3 from Hb3.out)) Hb4.out⟩
      · exact absurd Hd.out hd
    · have Hd := Lib.hid hd
      have Hb2 := Lib.hid hb2
      clear hd hb2
      go_wp2_with fail
      refine (decode_any s n _ Hl.out (by omega)).mono ?_
      rintro e w3 (⟨hd, A3, c3, rfl, ho3, hb3⟩ | ⟨hd, rfl, hb3⟩)
      · exact absurd hd Hd.out
      · clear hd
        have Hb3 := Lib.hid hb3
        clear hb3
        have hc2 : (convert 24 9 (.slice none 0 0)).run Try.prog w3 = .ok (.string ⟨#[]⟩) w3 := conv (Rd.nil w3 w3.heap.size none) 0
        go_wp2
        go_ret
        exact ⟨rfl, Grown.trans (Grown.trans (show Grown w w1 from Hb1.out) (show Grown w1 w2 from Hb2.out)) (show Grown w2 w3 from Hb3.out)⟩
  · go_wp2_with fail
    refine (awake2 _).mono ?_
    rintro e w2 ⟨rfl, hb2⟩
    have Hb2 := Lib.hid hb2
    clear hb2
    go_wp2
    go_ret
    exact ⟨rfl, Grown.trans (show Grown w w1 from Hb1.out) (show Grown w1 w2 from Hb2.out)⟩
end Go.Proofs.Ytjpjodjdciamhaa
