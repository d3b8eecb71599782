/-
  Contract of the program's Xor.
-/
import Derived.Test.YtgfmdjagggnfbaaApp
import Derived.Test.YtgfmdjagggnfbaaMath
namespace Go.Proofs.Ytgfmdjagggnfbaa
open Go.RowKit
set_option linter.unusedVariables false

def fillP (l : List UInt8) (i : Nat) : List UInt8 := (List.range l.length).map fun j => if j < i then l.getD j 0 else 0
theorem fillP_len (l : List UInt8) (i : Nat) : (fillP l i).length = l.length := by simp [fillP]
theorem fillP_zero (l : List UInt8) : fillP l 0 = List.replicate l.length 0 := by apply List.ext_getElem <;> simp [fillP]
theorem fillP_all (l : List UInt8) : fillP l l.length = l := by
  apply List.ext_getElem
  · simp [fillP]
  · intro j h1 h2
    simp [fillP, h2]
theorem fillP_set (l : List UInt8) (i : Nat) (h : i < l.length) : (fillP l i).set i l[i] = fillP l (i + 1) := by
  apply List.ext_getElem
  · simp [fillP]
  · intro j h1 h2
    rw [List.length_set, fillP_len] at h1
    rw [List.getElem_set]
    by_cases e : i = j
    · subst e
      simp [fillP, h]
    · rw [if_neg e]
      simp only [fillP, List.getElem_map, List.getElem_range]
      by_cases c : j < i
      · rw [if_pos c, if_pos (by omega)]
      · rw [if_neg c, if_neg (by omega)]

def xorL (a b : List UInt8) : List UInt8 := List.zipWith (fun x y => x ^^^ y) a b
theorem xorL_len (a b : List UInt8) : (xorL a b).length = min a.length b.length := by simp [xorL]
theorem xorL_get (a b : List UInt8) (k : Nat) (h : k < (xorL a b).length) (ha : k < a.length) (hb : k < b.length) : (xorL a b)[k] = a[k] ^^^ b[k] := by simp [xorL]
theorem xor_u8 (x y : UInt8) : bits .xor .u8 (x.toNat : Int) (y.toNat : Int) = ((x ^^^ y).toNat : Int) := by
  rw [u8_xor_nat _ _ (u8_lt x) (u8_lt y), UInt8.toNat_xor]

set_option maxHeartbeats 1000000 in
theorem xor_any (A1 : Option Addr) (n1 c1 : Nat) (A2 : Option Addr) (n2 c2 : Nat) (a b : List UInt8) (w : World) (h1 : Rd w w.heap.size A1 a) (h2 : Rd w w.heap.size A2 b) (hn1 : a.length = n1) (hn2 : b.length = n2) (hl1 : n1 ≤ 1000000) (hl2 : n2 ≤ 1000000) :
    Calls Try.prog 28 #[.slice A1 n1 c1, .slice A2 n2 c2] w (Makes w (xorL a b)) := by
  obtain ⟨m, hm⟩ : ∃ m, m = (xorL a b).length := ⟨_, rfl⟩
  have hm2 : m = min n1 n2 := by rw [hm, xorL_len, hn1, hn2]
  have Hm := Lib.hid hm
  have Hn1 := Lib.hid hn1
  have Hn2 := Lib.hid hn2
  have hmk := fun W => mk22 m (by omega) W
  have fin : ∀ wr, Row wr w.heap.size (fillP (xorL a b) m) → Below w.heap.size w wr → Makes w (xorL a b) (.returned (.slice (some ⟨w.heap.size, 0, none⟩) m m)) wr := by
    intro wr hr hb
    rw [Hm.out, fillP_all] at hr
    have := Own.row hr (Nat.le_refl _) (by rw [← Hm.out]; omega)
    rw [← Hm.out] at this
    exact ⟨_, _, by rw [← Hm.out], this, hb⟩
  have start : Row (w.alloc (.cells (bvs (List.replicate m 0)).toArray 5)) w.heap.size (fillP (xorL a b) 0) := by
    rw [fillP_zero, ← Hm.out]; exact Row.new w _
  have Fin := Lib.hid fin
  have Start := Lib.hid start
  clear hm hn1 hn2 fin start
  have go : ∀ (hdec : (n1 < n2 ∧ m = n1) ∨ (n2 < n1 ∧ m = n2) ∨ (m = n1 ∧ m = n2)), Calls Try.prog 28 #[.slice A1 n1 c1, .slice A2 n2 c2] w (Makes w (xorL a b)) := by
    rintro (⟨hle, rfl⟩ | ⟨hle, rfl⟩ | ⟨rfl, rfl⟩)
    all_goals
      clear hm2
      go_enter Try.func28, Try.ntmps28
      go_wp2
    all_goals
      go_loopw [15] (fun i wr => ∃ t : Nat, t ≤ m ∧ i = .int .i64 t ∧ Row wr w.heap.size (fillP (xorL a b) t) ∧ Below w.heap.size w wr) (fun i _ => m - (intOf i).toNat)
      case atStart => exact ⟨0, by omega, rfl, Start.out, alloc_below _ _⟩
      case round =>
        obtain ⟨t, ht, rfl, hr, hb⟩ := hrel
        have Hb := Lib.hid hb
        have Hr := Lib.hid hr
        clear hb hr hmk
        by_cases hlt : t < m
        · have hta : t < a.length := by have := Hn1.out; omega
          have htb : t < b.length := by have := Hn2.out; omega
          have htx : t < (xorL a b).length := by have := Hm.out; omega
          obtain ⟨b1, o1, rfl, hb1, hc1⟩ := (h1.below Hb.out).at_ hta
          obtain ⟨b2, o2, rfl, hb2, hc2⟩ := (h2.below Hb.out).at_ htb
          have hc3 := Hr.out.cell t (by rw [fillP_len]; exact htx)
          have hf3 := Hr.out.free t
          have hxx : bits .xor .u8 (a[t].toNat : Int) (b[t].toNat : Int) = ((xorL a b)[t].toNat : Int) := by rw [xor_u8, xorL_get a b t htx hta htb]
          clear h1 h2
          go_wp2
          go_region
          all_goals
            clear hc1 hc2 hc3 hf3 hxx
            go_wp2
            go_roundw
            case rel => exact ⟨t + 1, by omega, by go_num, by rw [← fillP_set _ t htx]; exact (Hr.out.drew.put t _), (Hb.out.drew).setCell (p := ⟨w.heap.size, t, none⟩) (Nat.le_refl _) _⟩
            case measure => simp [intOf]; omega
        · obtain rfl : t = m := by omega
          go_wp2
          go_ret
          exact Fin.out _ Hr.out Hb.out
  exact go (by omega)

end Go.Proofs.Ytgfmdjagggnfbaa
