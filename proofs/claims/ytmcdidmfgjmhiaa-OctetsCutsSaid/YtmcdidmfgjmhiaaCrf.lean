/-
  Contracts of the reference's Cut and All.
-/
import Derived.Test.YtmcdidmfgjmhiaaFil
namespace Go.Proofs.Ytmcdidmfgjmhiaa
open Go.RowKit
set_option linter.unusedVariables false

set_option maxHeartbeats 2000000 in
theorem refCut_some (A : Option Addr) (n c : Nat) (l : List UInt8) (s : Nat) (w : World) (hn : l.length = n) (h : Rd w w.heap.size A l) (hc : n ≤ c) (hl : n ≤ 1000000) (hs : 1 ≤ s) (hs2 : s ≤ 1000000) :
    Calls Try.prog 19 #[.slice A n c, .int .i64 s] w (MakesL w (cutL s l)) := by
  have hp := Lib.hid hn
  clear hn
  go_enter Try.func19, Try.ntmps19
  go_wp2
  go_loopw [0, 5] (fun v0 v5 wr => CutRel w s l v0 v5 wr) (fun v0 _ _ => lenV v0)
  case atStart => exact ⟨A, n, c, l, none, 0, 0, [], rfl, hp.out, hc, by have := hp.out; omega, h, rfl, rfl, by have := hp.out; omega, OwnL.nil _ _, rfl, Below.refl _ _⟩
  case round =>
    obtain ⟨A, n, c, rest, Ap, m, cp, ls, rfl, hn, hc, hnl, hr, rfl, hm, hmn, ho, hcut, hb⟩ := hrel
    have Hn := Lib.hid hn
    have Hm := Lib.hid hm
    have Hcut := Lib.hid hcut
    have Hr := Lib.hid hr
    have Ho := Lib.hid ho
    have Hb := Lib.hid hb
    have hB := Hb.out.size
    have Hp := hp.out
    have hnn : n ≤ 1000000 := by omega
    clear hn hm hcut hr ho hb hp h
    by_cases h0 : 0 < n
    · by_cases hsn : s ≤ n
      · by_cases hcs : c = s
        all_goals
          have Hts := Lib.hid (show (rest.take s).length = s by have := Hn.out; simp; omega)
          go_wp2_with (first
            | (at_builtin
               refine wpList_app rfl (.tmp 22) (.tmp 25) rfl (base := wr.heap.size) (l := []) (c := 0) rfl (Own.lit wr [] (Nat.le_refl _) (by simp)) (l2 := rest.take s) (by rw [Hts.out]; rfl) (((Hr.out.take s).more hB).grow (alloc_below wr _)) (by rw [Hts.out]; simp; omega) (by simp) (rest.take s) (by simp) ?_
               intro A1 c1 w1 ho1 hb1
               have Ho1 := Lib.hid ho1
               have Hb1 := Lib.hid ((alloc_below wr _).trans hb1)
               clear ho1 hb1)
            | (at_builtin
               refine wpList_appL rfl (.tmp 21) (.tmp 27) rfl (base := w.heap.size) rfl Hm.out ((Ho.out.grow Hb1.out).grow (alloc_below w1 _)) rfl (by simp) (piece_new Ho1.out hB _) (by omega) (by have := Hb1.out.size; simp; omega) ?_
               intro A2 c2 w2 ho2 hb2
               have Ho2 := Lib.hid ho2
               have Hb2 := Lib.hid hb2
               clear ho2 hb2))
        all_goals
          go_roundw
          case rel =>
            have hx := Hr.out.cut (k := s) (cap := c) (by have := Hn.out; omega)
            simp only [hcs, if_true, if_false] at hx
            exact cutRel_step Hn.out Hm.out h0 hs (by omega) Hcut.out hx Hb.out (below_chain hB Hb1.out Hb2.out) Ho2.out (by omega) hnl hmn
          case measure => simp [lenV]; omega
      · by_cases hcs : c = n
        all_goals
          go_wp2_with (first
            | (at_builtin
               refine wpList_app rfl (.tmp 22) (.tmp 25) rfl (base := wr.heap.size) (l := []) (c := 0) rfl (Own.lit wr [] (Nat.le_refl _) (by simp)) (l2 := rest) (by rw [Hn.out]; rfl) ((Hr.out.more hB).grow (alloc_below wr _)) (by rw [Hn.out]; simp; omega) (by simp) rest (by simp) ?_
               intro A1 c1 w1 ho1 hb1
               have Ho1 := Lib.hid ho1
               have Hb1 := Lib.hid ((alloc_below wr _).trans hb1)
               clear ho1 hb1)
            | (at_builtin
               refine wpList_appL rfl (.tmp 21) (.tmp 27) rfl (base := w.heap.size) rfl Hm.out ((Ho.out.grow Hb1.out).grow (alloc_below w1 _)) rfl (by simp) (piece_new Ho1.out hB _) (by omega) (by have := Hb1.out.size; simp; omega) ?_
               intro A2 c2 w2 ho2 hb2
               have Ho2 := Lib.hid ho2
               have Hb2 := Lib.hid hb2
               clear ho2 hb2))
        all_goals
          go_roundw
          case rel =>
            have hx := Hr.out.cut (k := n) (cap := c) (by have := Hn.out; omega)
            simp only [hcs, if_true, if_false] at hx
            have ho := Ho2.out
            have e : rest = rest.take n := by rw [List.take_of_length_le (by have := Hn.out; omega)]
            rw [e] at ho
            have := cutRel_step (k := n) (cx := c - n) Hn.out Hm.out h0 hs (by omega) Hcut.out hx Hb.out (below_chain hB Hb1.out Hb2.out) ho (by omega) hnl hmn
            simpa [hcs] using this
          case measure => simp [lenV]; omega
    · go_wp2
      go_ret
      obtain rfl : n = 0 := by omega
      have e : rest = [] := List.eq_nil_of_length_eq_zero Hn.out
      have hcut := Hcut.out
      rw [e, cutL_nil, List.append_nil] at hcut
      refine ⟨Ap, cp, ?_, hcut ▸ Ho.out, Hb.out⟩
      show Ending.returned (.slice Ap m cp) = _
      rw [← hcut, Hm.out]

theorem refCut_none (A : Option Addr) (n c : Nat) (l : List UInt8) (size : Int) (w : World) (hs : size < 1) :
    Calls Try.prog 19 #[.slice A n c, .int .i64 size] w (MakesL w []) := by
  go_enter Try.func19, Try.ntmps19
  go_wp2
  refine wp_loop_rounds 1 ?_
  rw [rounds_succ]
  go_wp2
  go_ret
  exact ⟨none, 0, rfl, OwnL.nil _ _, Below.refl _ _⟩

theorem flat_take (ls : List (List UInt8)) (k : Nat) (h : k < ls.length) : (ls.take k).flatten ++ ls[k] = (ls.take (k + 1)).flatten := by
  rw [List.take_succ_eq_append_getElem h]; simp only [List.flatten_append, List.flatten_cons, List.flatten_nil, List.append_nil]
theorem flat_le (ls : List (List UInt8)) (k : Nat) : (ls.take k).flatten.length ≤ ls.flatten.length := by
  have h : ls.flatten = (ls.take k).flatten ++ (ls.drop k).flatten := by rw [← List.flatten_append, List.take_append_drop]
  rw [h]; simp
theorem piece_le (ls : List (List UInt8)) (k : Nat) (h : k < ls.length) : ls[k].length ≤ ls.flatten.length := by
  have h1 := flat_le ls (k + 1)
  rw [← flat_take ls k h] at h1
  simp at h1; simp; omega

set_option maxHeartbeats 1000000 in
theorem all_any (A : Option Addr) (n c : Nat) (ls : List (List UInt8)) (w : World) (h : RdL w w.heap.size A ls) (hn : ls.length = n) (hl : n ≤ 1000000) (hf : ls.flatten.length ≤ 1000000) :
    Calls Try.prog 20 #[.slice A n c] w (Makes w ls.flatten) := by
  have Hn := Lib.hid hn
  have Hf := Lib.hid hf
  clear hn hf
  go_enter Try.func20, Try.ntmps20
  go_wp2
  go_loopw [3, 4] (fun v i wr => ∃ t m A c, t ≤ n ∧ i = .int .i64 (t : Nat) ∧ v = .slice A m c ∧ Hid ((ls.take t).flatten.length = m) ∧ Hid (Own wr w.heap.size A c (ls.take t).flatten) ∧ Hid (Below w.heap.size w wr)) (fun _ i _ => n - (intOf i).toNat)
  case atStart => exact ⟨0, 0, none, 0, by omega, rfl, rfl, (by show _ = _; simp), Own.nil _ _, Below.refl _ _⟩
  case round =>
    obtain ⟨t, m, A1, c1, ht, rfl, rfl, Hm, Ho, Hb⟩ := hrel
    have hB := Hb.out.size
    by_cases hlt : t < n
    · have htl : t < ls.length := by have := Hn.out; omega
      obtain ⟨b1, o1, B1, d1, rfl, hb1, hc1, hd1, hr1⟩ := (h.keep Hb.out).at_ htl
      obtain ⟨k, hk⟩ : ∃ k, k = ls[t].length := ⟨_, rfl⟩
      have Hk := Lib.hid hk.symm
      rw [← hk] at hc1
      have Hr1 := Lib.hid (hr1.more hB)
      have Hfl := Lib.hid (flat_take ls t htl)
      have hbd : m + k ≤ 4294967296 := by
        have h1 := flat_le ls t
        have h2 := piece_le ls t htl
        have h3 := Hf.out
        have h4 := Hm.out
        omega
      clear h hk hd1 hr1
      go_wp2_with (first
        | (at_builtin
           refine wpList_app rfl (.tmp 11) (.tmp 15) rfl (base := w.heap.size) (l := (ls.take t).flatten) (by rw [Hm.out]; rfl) Ho.out (l2 := ls[t]) (by rw [Hk.out]; rfl) Hr1.out (by rw [Hm.out, Hk.out]; exact hbd) hB (ls.take (t + 1)).flatten Hfl.out ?_
           intro A2 c2 w2 ho2 hb2
           have Ho2 := Lib.hid ho2
           have Hb2 := Lib.hid hb2
           clear ho2 hb2))
      go_roundw
      case rel => exact ⟨t + 1, _, A2, c2, by omega, by go_num, rfl, (by show _ = _; simp), Ho2.out, Hb.out.trans Hb2.out⟩
      case measure => simp [intOf]; omega
    · go_wp2
      go_ret
      have e : ls.take t = ls := List.take_of_length_le (by have := Hn.out; omega)
      have hm := Hm.out
      have ho := Ho.out
      rw [e] at hm ho
      refine ⟨A1, c1, ?_, ho, Hb.out⟩
      show Ending.returned (.slice A1 m c1) = _
      rw [hm]

end Go.Proofs.Ytmcdidmfgjmhiaa
