/-
  Contract of the reference's All: the pieces put together.
-/
import Derived.Test.YtbjfjncpnnlklaaDoorRdl
import Derived.Test.YtbjfjncpnnlklaaDoorMath
namespace Go.Proofs.YtbjfjncpnnlklaaDoor
open Go.RowKit
set_option linter.unusedVariables false

theorem flat_take (ls : List (List UInt8)) (k : Nat) (h : k < ls.length) : (ls.take k).flatten ++ ls[k] = (ls.take (k + 1)).flatten := by
  rw [List.take_succ_eq_append_getElem h]; simp only [List.flatten_append, List.flatten_cons, List.flatten_nil, List.append_nil]
theorem flat_le (ls : List (List UInt8)) (k : Nat) : (ls.take k).flatten.length ≤ ls.flatten.length := by
  have h : ls.flatten = (ls.take k).flatten ++ (ls.drop k).flatten := by rw [← List.flatten_append, List.take_append_drop]
  rw [h]; simp
theorem piece_le (ls : List (List UInt8)) (k : Nat) (h : k < ls.length) : ls[k].length ≤ ls.flatten.length := by
  have h1 := flat_le ls (k + 1)
  rw [← flat_take ls k h] at h1
  simp at h1; simp; omega

set_option maxHeartbeats 1000000 in
theorem all_any (A : Option Addr) (n c : Nat) (ls : List (List UInt8)) (w : World) (h : RdL w w.heap.size A ls) (hn : ls.length = n) (hl : n ≤ 1000000) (hf : ls.flatten.length ≤ 1000000) :
    Calls Tryd.prog 8 #[.slice A n c] w (Makes w ls.flatten) := by
  have Hn := Lib.hid hn
  have Hf := Lib.hid hf
  clear hn hf
  go_enter Tryd.func8, Tryd.ntmps8
  go_wp2
  go_loopw [3, 4] (fun v i wr => ∃ t m A c, t ≤ n ∧ i = .int .i64 (t : Nat) ∧ v = .slice A m c ∧ Hid ((ls.take t).flatten.length = m) ∧ Hid (Own wr w.heap.size A c (ls.take t).flatten) ∧ Hid (Below w.heap.size w wr)) (fun _ i _ => n - (intOf i).toNat)
  case atStart => exact ⟨0, 0, none, 0, by omega, rfl, rfl, (by show _ = _; simp), Own.nil _ _, Below.refl _ _⟩
  case round =>
    obtain ⟨t, m, A1, c1, ht, rfl, rfl, Hm, Ho, Hb⟩ := hrel
    have hB := Hb.out.size
    by_cases hlt : t < n
    · have htl : t < ls.length := by have := Hn.out; omega
      obtain ⟨b1, o1, B1, d1, rfl, hb1, hc1, hd1, hr1⟩ := (h.keep Hb.out).at_ htl
      obtain ⟨k, hk⟩ : ∃ k, k = ls[t].length := ⟨_, rfl⟩
      have Hk := Lib.hid hk.symm
      rw [← hk] at hc1
      have Hr1 := Lib.hid (hr1.more hB)
      have Hfl := Lib.hid (flat_take ls t htl)
      have hbd : m + k ≤ 4294967296 := by
        have h1 := flat_le ls t
        have h2 := piece_le ls t htl
        have h3 := Hf.out
        have h4 := Hm.out
        omega
      clear h hk hd1 hr1
      go_wp2_with (first
        | (at_builtin
           refine wpList_app rfl (.tmp 11) (.tmp 15) rfl (base := w.heap.size) (l := (ls.take t).flatten) (by rw [Hm.out]; rfl) Ho.out (l2 := ls[t]) (by rw [Hk.out]; rfl) Hr1.out (by rw [Hm.out, Hk.out]; exact hbd) hB (ls.take (t + 1)).flatten Hfl.out ?_
           intro A2 c2 w2 ho2 hb2
           have Ho2 := Lib.hid ho2
           have Hb2 := Lib.hid hb2
           clear ho2 hb2))
      go_roundw
      case rel => exact ⟨t + 1, _, A2, c2, by omega, by go_num, rfl, (by show _ = _; simp), Ho2.out, Hb.out.trans Hb2.out⟩
      case measure => simp [intOf]; omega
    · go_wp2
      go_ret
      have e : ls.take t = ls := List.take_of_length_le (by have := Hn.out; omega)
      have hm := Hm.out
      have ho := Ho.out
      rw [e] at hm ho
      refine ⟨A1, c1, ?_, ho, Hb.out⟩
      show Ending.returned (.slice A1 m c1) = _
      rw [hm]

end Go.Proofs.YtbjfjncpnnlklaaDoor
