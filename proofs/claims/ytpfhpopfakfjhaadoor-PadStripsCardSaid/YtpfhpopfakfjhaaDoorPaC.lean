/-
  What the laws of pad ask of the program, and what they share.
-/
import Derived.Test.YtpfhpopfakfjhaaDoorPaS
import Derived.Test.YtpfhpopfakfjhaaDoorApp
import Derived.Test.YtpfhpopfakfjhaaDoorGrow
import Derived.Test.YtpfhpopfakfjhaaDoorPnU
namespace Go.Proofs.YtpfhpopfakfjhaaDoor.S10
open Go.RowKit
set_option linter.unusedVariables false
set_option linter.unusedSimpArgs false

abbrev NameOk : Prop := ∀ (s : List UInt8) (n : Nat) (w : World), s.length = n → n ≤ 300 → Calls Tryd.prog 10 #[.string { data := s.toArray }] w fun e w' => e = .returned (.bool (nameB s)) ∧ Grown w w'
abbrev SizeOk : Prop := ∀ (n u : Int) (w : World), -9223372036854775808 ≤ n → n < 9223372036854775808 → -9223372036854775808 ≤ u → u < 9223372036854775808 → Un w → Calls Tryd.prog 12 #[.int .i64 n, .int .i64 u] w fun e w' => e = .returned (.int .i64 (sizeI n u)) ∧ Grown w w'
/-- What Fill leaves, if it answers with l and the number n. -/
def Fills (w : World) (l : List UInt8) (n : Int) (e : Ending) (w' : World) : Prop := ∃ A c, e = .returned (.tuple #[.slice A l.length c, .int .i64 n]) ∧ l.length ≤ c ∧ c ≤ maxLen ∧ Rd w' w'.heap.size A l ∧ Grown w w'
abbrev FillOk : Prop := ∀ (s : List UInt8) (n : Nat) (u : Int) (w : World), s.length = n → n ≤ 300 → -9223372036854775808 ≤ u → u < 9223372036854775808 → Un w → Calls Tryd.prog 8 #[.string { data := s.toArray }, .int .i64 u] w (Fills w (fillI s u) (if fillB s u then 0 else 2))
abbrev StripOk : Prop := ∀ (B : Option Addr) (bl d : Nat) (b : List UInt8) (w : World), b.length = bl → bl ≤ d → d ≤ maxLen → Rd w w.heap.size B b → bl ≤ 300 → Un w → Calls Tryd.prog 14 #[.slice B bl d] w fun e w' => e = .returned (.tuple #[.string { data := (stripL b).toArray }, .bool (stripB b)]) ∧ Grown w w'
theorem made_rd (w : World) (l : List UInt8) (Z : Array Value) (hZ : Z = (bvs l).toArray) {w' : World} (hg : Grown (w.alloc (.cells Z 5)) w') : Rd w' w'.heap.size (some ⟨w.heap.size, 0, none⟩) l := by
  subst hZ
  exact Rd.grow ((Row.new w l).rd (by simp)) hg
theorem fill_abc : fillI [97, 98, 99] 16 = [97, 98, 99, 0, 0, 0, 0, 0, 0, 0, 0, 0, 0, 0, 0, 0] ∧ fillB [97, 98, 99] 16 = true := by decide
theorem strip_zeros : stripL (List.replicate 16 0) = [] ∧ stripB (List.replicate 16 0) = false := by decide
theorem fill_len (s : List UInt8) (u : Int) : (fillI s u).length ≤ 128 := by
  unfold fillI
  split
  · rename_i h
    simp only [fillB, Bool.and_eq_true, decide_eq_true_eq] at h
    have := name_len h.1
    rcases h.2 with rfl | rfl
    · have := up_16 s.length this.1
      rw [show (16 : Int).toNat = 16 from rfl, fill_len16 s (by omega)]; omega
    · have := up_32 s.length this.1
      rw [show (32 : Int).toNat = 32 from rfl, fill_len32 s (by omega)]; omega
  · simp
/-- What was filled, stripped. -/
theorem strip_fillI (s : List UInt8) (u : Int) : stripB (fillI s u) = fillB s u ∧ (fillB s u = true → stripL (fillI s u) = s) := by
  cases hq : fillB s u with
  | false =>
    unfold fillI
    rw [hq]
    exact ⟨strip_nil.1, fun h => by cases h⟩
  | true =>
    have h := hq
    simp only [fillB, Bool.and_eq_true, decide_eq_true_eq] at h
    unfold fillI
    rw [hq, if_pos rfl]
    rcases h.2 with rfl | rfl
    · exact ⟨(strip_fill16 s h.1).1, fun _ => (strip_fill16 s h.1).2⟩
    · exact ⟨(strip_fill32 s h.1).1, fun _ => (strip_fill32 s h.1).2⟩

set_option maxHeartbeats 4000000 in
theorem awakeP (HF : FillOk) (HS : StripOk) (w : World) (hU : Un w) : Calls Tryd.prog 7 #[] w (Says w true) := by
  have CF := Lib.hid (HF [97, 98, 99] 3 16 w rfl (by omega) (by omega) (by omega) hU)
  have HU := Lib.hid hU
  have CS := Lib.hid HS
  clear HF HS hU
  rw [fill_abc.1, fill_abc.2] at CF
  obtain ⟨Z, hZ⟩ : ∃ Z, Z = (bvs (List.replicate 16 0)).toArray := ⟨_, rfl⟩
  have hm : ∀ V : World, (Instr.makeSlice 23 (.int .i64 16) (.int .i64 16)).run Tryd.prog V = .ok (.slice (some ⟨V.heap.size, 0, none⟩) 16 16) (V.alloc (.cells Z 5)) := fun V => by rw [hZ]; exact mk22 16 (by omega) V
  have HZ := Lib.hid hZ
  clear hZ
  go_enter Tryd.func7, Tryd.ntmps7
  go_wp2_with fail
  refine CF.out.mono ?_
  rintro e w2 ⟨A, c, rfl, hc, hm2, hr, hg⟩
  obtain ⟨l, hll⟩ : ∃ l : List UInt8, l = [97, 98, 99, 0, 0, 0, 0, 0, 0, 0, 0, 0, 0, 0, 0, 0] := ⟨_, rfl⟩
  rw [← hll] at hr
  have HL := Lib.hid hll
  have HR := Lib.hid (hr.grow (alloc_below w2 (.cells Z 5)))
  have HG := Lib.hid (hg.trans (alloc_below w2 (.cells Z 5)))
  have HRZ := Lib.hid (made_rd w2 _ Z HZ.out (Grown.refl _))
  clear CF hc hm2 hr hg hll
  go_wp2_with fail
  refine (CS.out (some ⟨w2.heap.size, 0, none⟩) 16 16 (List.replicate 16 0) _ (by simp) (by omega) (by unfold maxLen; omega) HRZ.out (by omega) (HU.out.grow HG.out)).mono ?_
  rintro e w3 ⟨rfl, hg3⟩
  rw [strip_zeros.1, strip_zeros.2]
  have HR3 := Lib.hid (HR.out.grow hg3)
  have HG3 := Lib.hid (HG.out.trans hg3)
  clear HR HG HRZ hg3 CS hm
  have hll : l.length = 16 := by rw [HL.out]; rfl
  have hcv := Go.Proofs.YtpfhpopfakfjhaaDoor.conv HR3.out c
  rw [hll] at hcv
  have he : (l == [97, 98, 99, 0, 0, 0, 0, 0, 0, 0, 0, 0, 0, 0, 0, 0]) = true := by rw [HL.out]; rfl
  go_wp2
  go_ret
  exact ⟨rfl, HG3.out⟩
end Go.Proofs.YtpfhpopfakfjhaaDoor.S10
