/-
  The laws of dev: a sector's beginning; awake.
-/
import Derived.Test.YteigfpgdnfladaaDvK
import Derived.Lib.SlBytesConst
namespace Go.Proofs.Yteigfpgdnfladaa.S13
open Cf
open Go.RowKit
set_option linter.unusedVariables false
set_option linter.unusedSimpArgs false
section
variable {D : DTab}
def beg (st : Dv) (n : Int) (s : List UInt8) : Prop := (dvRead st n).2.1 = 0 ∧ (dvRead st n).1.length = 512 ∧ (dvRead st n).1.take s.length = s
instance (st : Dv) (n : Int) (s : List UInt8) : Decidable (beg st n s) := by unfold beg; exact inferInstance
set_option maxHeartbeats 4000000 in
theorem begins_any (K : DevOk D) {w : World} {G : Nat} {F : Nat → Prop} {st : Dv} {i : Nat} (h : D w G F st) (hk : Ok st i) (hi : i ≤ 1000) (hl : st.kept.length ≤ 100) (n : Int) (s : List UInt8) (sl : Nat) (hs : s.length = sl) (hsl : sl ≤ 512) :
    Calls Try.prog 31 #[.pointer (some ⟨G, 0, none⟩), .int .i64 n, .string ⟨s.toArray⟩] w fun e w' => e = .returned (.bool (decide (beg st n s))) ∧ DOn D w G F (dvRead st n).2.2 w' := by
  go_enter Try.func31, Try.ntmps31
  go_wp2_with fail
  refine (K.read w G F st i n h hk hi hl).mono ?_
  rintro e w1 ⟨A, m, c, rfl, hm, hmc, ho, F', hd, hF, hc, hx⟩
  obtain ⟨er, her⟩ : ∃ er, er = (dvRead st n).2.1 := ⟨_, rfl⟩
  have HO := Lib.hid (show DOn D w G F (dvRead st n).2.2 w1 from ⟨F', hd, hF, hc⟩)
  have HW := Lib.hid ho
  have HM := Lib.hid hm
  have HSl := Lib.hid hs
  rw [← her]
  clear hd hF hc hx ho hk h
  by_cases h1 : er = 0
  · by_cases h2 : (m : Int) = 512
    · obtain rfl : m = 512 := by omega
      obtain ⟨P, hP⟩ : ∃ P, P = (dvRead st n).1.take sl := ⟨_, rfl⟩
      have hr := HW.out.rd
      have hPl : P.length = sl := by rw [hP, List.length_take, HM.out]; omega
      have hcv : (convert 31 9 (.slice A sl c)).run Try.prog w1 = .ok (.string ⟨P.toArray⟩) w1 := by
        have := conv (hr.take sl) c
        rw [← hP, hPl] at this
        exact this
      have HD := Lib.hid (show decide (beg st n s) = decide (P = s) from decide_eq_decide.2 ⟨fun h => by rw [hP, ← HSl.out]; exact h.2.2, fun h => ⟨by rw [← her]; exact h1, HM.out, by rw [HSl.out, ← hP]; exact h⟩⟩)
      clear hP hr hPl
      go_wp2
      go_ret
      rw [HD.out]
      refine ⟨?_, HO.out⟩
      simp
      rw [Bool.eq_iff_iff]
      simp
    · have HD := Lib.hid (show decide (beg st n s) = false from decide_eq_false (fun (hb : beg st n s) => h2 (by have := hb.2.1; rw [HM.out] at this; omega)))
      go_wp2
      go_ret
      rw [HD.out]
      exact ⟨rfl, HO.out⟩
  · have HD := Lib.hid (show decide (beg st n s) = false from decide_eq_false (fun (hb : beg st n s) => h1 (by rw [her]; exact hb.1)))
    go_wp2
    go_ret
    rw [HD.out]
    exact ⟨rfl, HO.out⟩
/-- A text of the program's own is written. -/
theorem wr1 (K : DevOk D) {w w1 : World} {G : Nat} {F : Nat → Prop} {st : Dv} {i : Nat} (Z : DSince D w w1 G F st) (hk : Ok st i) (hi : i ≤ 1000) (hl : st.kept.length ≤ 100) (n : Int) (b : List UInt8) (m : Nat) (fr : Nat × Nat) (hm : b.length = m) (hm2 : m ≤ 1000) :
    Calls Try.prog 11 #[.pointer (some ⟨G, 0, none⟩), .int .i64 n, .slice (some ⟨w1.heap.size, 0, none⟩) m m] (w1.alloc (.cells (bvs b).toArray 5 fr)) fun e w' => e = .returned (.int .i64 (dvWrite st n b).1) ∧ ∃ F', DSince D w w' G F' (dvWrite st n b).2 := by
  refine (K.write _ G F st i n _ m m b (K.grow Z.1 (alloc_below w1 _)) hk hi hl (.inr ⟨_, 0, rfl, by simp, fun j hj => ?_⟩) hm (Nat.le_refl _) hm2 (fun x hx _ hf => ?_)).mono ?_
  · rw [Nat.zero_add, cell_of_row _ _ j _ _ fr (heap_alloc_new w1 _)]; simp [bvs, hj]
  · simp only [Option.some.injEq] at hx
    subst hx
    have := K.foot w1 G F st Z.1 _ hf
    simp at this
  rintro e w2 ⟨rfl, hd⟩
  exact ⟨rfl, (Z.grow K (alloc_below w1 _)).step hd⟩
def a0 : Dv := dvNew 3
def a1 : Dv := (dvWrite a0 0 [97]).2
def a2 : Dv := (dvFlush a1).2
def a3 : Dv := (dvWrite a2 0 [98]).2
def a4 : Dv := (dvWrite a3 1 [99]).2
def a5 : Dv := (dvCrash a4 [1]).2
set_option maxHeartbeats 4000000 in
theorem awakeD (K : DevOk D) (w : World) : Calls Try.prog 7 #[] w fun e w' => e = .returned (.bool true) ∧ Grown w w' := by
  have KK := Lib.hid K
  go_enter Try.func7, Try.ntmps7
  go_wp2_with fail
  refine (K.new w 3 (by omega) (by omega)).mono ?_
  rintro e w1 ⟨G, F, rfl, hd, hF, hg⟩
  have Z1 := Lib.hid (show DSince D w w1 G F a0 from ⟨hd, hF, hg⟩)
  clear hd hF hg K
  have kc := fun (W : World) (C : Array Value) (n c : Nat) => Lib.run_convert_bytes_const (P := Try.prog) W 31 5 C n c Try.underlying31 Try.underlying5
  go_wp2_with fail
  refine (wr1 KK.out Z1.out (ok_new 3) (by omega) (by simp [a0, dvNew]) 0 [97] 1 (1, 2) rfl (by omega)).mono ?_
  rintro e w2 ⟨rfl, F2, hz2⟩
  rw [show (dvWrite a0 0 [97]).1 = 0 from by decide +kernel]
  have Z2 := Lib.hid (show DSince D w w2 G F2 a1 from hz2)
  have N2 := Lib.hid (show Ok a1 1 from ok_write (ok_new 3) _ _)
  clear hz2 Z1
  go_wp2_with fail
  refine (KK.out.flush w2 G F2 a1 1 Z2.out.1 N2.out (by omega) (by decide +kernel)).mono ?_
  rintro e w3 ⟨rfl, hd3⟩
  rw [show (dvFlush a1).1 = 0 from by decide +kernel]
  obtain ⟨F3, hz3⟩ := Z2.out.step hd3
  have Z3 := Lib.hid (show DSince D w w3 G F3 a2 from hz3)
  have N3 := Lib.hid (show Ok a2 1 from ok_flush N2.out)
  clear hz3 Z2 N2 hd3
  go_wp2_with fail
  refine (wr1 KK.out Z3.out N3.out (by omega) (by decide +kernel) 0 [98] 1 (1, 2) rfl (by omega)).mono ?_
  rintro e w4 ⟨rfl, F4, hz4⟩
  rw [show (dvWrite a2 0 [98]).1 = 0 from by decide +kernel]
  have Z4 := Lib.hid (show DSince D w w4 G F4 a3 from hz4)
  have N4 := Lib.hid (show Ok a3 2 from ok_write N3.out _ _)
  clear hz4 Z3 N3
  go_wp2_with fail
  refine (wr1 KK.out Z4.out N4.out (by omega) (by decide +kernel) 1 [99] 1 (1, 2) rfl (by omega)).mono ?_
  rintro e w5 ⟨rfl, F5, hz5⟩
  rw [show (dvWrite a3 1 [99]).1 = 0 from by decide +kernel]
  have Z5 := Lib.hid (show DSince D w w5 G F5 a4 from hz5)
  have N5 := Lib.hid (show Ok a4 3 from ok_write N4.out _ _)
  clear hz5 Z4 N4 kc
  go_wp2_with fail
  refine (KK.out.crash _ G F5 a4 3 _ 1 1 [1] (KK.out.grow Z5.out.1 (alloc_below w5 _)) N5.out (by omega) (by decide +kernel) (.inr ⟨_, 0, rfl, by simp, fun j hj => ?_⟩) rfl (by omega) (by omega) (fun x hx _ hf => ?_)).mono ?_
  · obtain rfl : j = 0 := by simp at hj; omega
    exact cellNew w5 _ _
  · simp only [Option.some.injEq] at hx
    subst hx
    have := KK.out.foot w5 G F5 a4 Z5.out.1 _ hf
    simp at this
  rintro e w6 ⟨rfl, hd6⟩
  rw [show (dvCrash a4 [1]).1 = 1 from by decide +kernel]
  obtain ⟨F6, hz6⟩ := (Z5.out.grow KK.out (alloc_below w5 _)).step hd6
  have Z6 := Lib.hid (show DSince D w w6 G F6 a5 from hz6)
  have N6 := Lib.hid (show Ok a5 3 from ok_crash N5.out _)
  clear hz6 Z5 N5 hd6
  go_wp2_with fail
  refine (begins_any KK.out Z6.out.1 N6.out (by omega) (by decide +kernel) 0 [97] 1 rfl (by omega)).mono ?_
  rintro e w7 ⟨rfl, hd7⟩
  rw [show decide (beg a5 0 [97]) = true from by decide +kernel]
  rw [show (dvRead a5 0).2.2 = a5 from by rfl] at hd7
  obtain ⟨F7, hz7⟩ := Z6.out.step hd7
  have Z7 := Lib.hid hz7
  clear hz7 Z6 hd7
  go_wp2_with fail
  refine (begins_any KK.out Z7.out.1 N6.out (by omega) (by decide +kernel) 1 [99] 1 rfl (by omega)).mono ?_
  rintro e w8 ⟨rfl, hd8⟩
  rw [show decide (beg a5 1 [99]) = true from by decide +kernel]
  obtain ⟨F8, hz8⟩ := Z7.out.step hd8
  have G8 := Lib.hid hz8.2.2
  clear hz8 hd8
  go_wp2
  go_ret
  exact ⟨rfl, G8.out⟩
end
end Go.Proofs.Yteigfpgdnfladaa.S13
