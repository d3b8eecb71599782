/-
  PadStrips: the walk, out of the program's contracts.
-/
import Derived.Test.YtpfhpopfakfjhaaDoorPaC
namespace Go.Proofs.YtpfhpopfakfjhaaDoor.S10
open Go.RowKit
set_option linter.unusedVariables false
set_option linter.unusedSimpArgs false

theorem Own.cap {w : World} {base : Nat} {A : Option Addr} {c : Nat} {l : List UInt8} (h : Own w base A c l) : c ≤ maxLen := by
  have h' : w.ownsRow base 5 1 (.slice A l.length c) l.length (bvs l) := h
  rcases h'.2 with ⟨h1, _⟩ | ⟨g, cap, cur, h1, _, _, _, h2, _⟩
  · simp only [Value.slice.injEq] at h1
    obtain ⟨_, _, rfl⟩ := h1
    exact Nat.zero_le _
  · simp only [Value.slice.injEq] at h1
    obtain ⟨_, _, rfl⟩ := h1
    exact h2

set_option maxHeartbeats 4000000 in
theorem strips_walk (HF : FillOk) (HS : StripOk) (B : Option Addr) (bl d : Nat) (b : List UInt8) (w : World) (hU : Un w) (hb : b.length = bl) (hbd : bl ≤ d) (hd : d ≤ maxLen) (hB : Rd w w.heap.size B b) :
    Calls Tryd.prog 4 #[.slice B bl d] w (Says w true) := by
  have Hb := Lib.hid hb
  have HA := Lib.hid (fun V (g : Grown w V) => awakeP HF HS V (hU.grow g))
  by_cases h1 : 300 < bl
  · clear HF HS
    have h1i : 300 < (bl : Int) := by omega
    go_enter Tryd.func4, Tryd.ntmps4
    go_wp2_with fail
    refine (HA.out _ (Grown.refl _)).mono ?_
    rintro e w1 ⟨rfl, hg1⟩
    have G1 := Lib.hid (show Grown w w1 from hg1)
    clear hg1
    go_wp2_with fail
    refine (HA.out _ G1.out).mono ?_
    rintro e w2 ⟨rfl, hg2⟩
    have G2 := Lib.hid (Grown.trans G1.out hg2)
    clear hg2 G1
    go_wp2
    go_ret
    exact ⟨rfl, G2.out⟩
  have h1i : ¬ 300 < (bl : Int) := by omega
  have hb3 : bl ≤ 300 := by omega
  obtain ⟨y, hy⟩ : ∃ y, stripL b = y := ⟨_, rfl⟩
  obtain ⟨o, ho⟩ : ∃ o, stripB b = o := ⟨_, rfl⟩
  have CS := Lib.hid (fun A c V (g : Grown w V) (h1 : bl ≤ c) h2 h3 => HS A bl c b V hb h1 h2 h3 hb3 (hU.grow g))
  have CX := Lib.hid (fun V => refStrip_any b bl V hb (by omega))
  rw [hy, ho] at CS CX
  have R0 := Lib.hid hB
  clear HF HS hy ho h1 hB
  go_enter Tryd.func4, Tryd.ntmps4
  go_wp2_with fail
  refine (HA.out _ (Grown.refl _)).mono ?_
  rintro e w1 ⟨rfl, hg1⟩
  have G1 := Lib.hid (show Grown w w1 from hg1)
  have R1 := Lib.hid (R0.out.grow hg1)
  have T1 := Lib.hid (R1.out.grow (alloc_below w1 (.cells (bvs []).toArray 5)))
  clear hg1 R0
  go_wp2_with (first
    | (at_builtin
       refine wpList_app rfl (.tmp 16) (.tmp 17) rfl (base := w1.heap.size) (l := []) (c := 0) rfl (Own.lit w1 [] (Nat.le_refl _) (by simp)) (l2 := b) (by rw [Hb.out]; rfl) T1.out (by rw [Hb.out]; simp; omega) (by simp) b (by simp) ?_
       intro A4 c4 w4 ho4 hb4
       rw [Hb.out]
       have HO4 := Lib.hid ho4
       have G4 := Lib.hid (show Grown w1 w4 from (alloc_below w1 _).trans hb4)
       clear ho4 hb4))
  refine (CS.out A4 c4 w4 (G1.out.trans G4.out) (by have := HO4.out.le; rwa [Hb.out] at this) (Own.cap HO4.out) HO4.out.rd).mono ?_
  rintro e w5 ⟨rfl, hg⟩
  have G5 := Lib.hid (Grown.trans G1.out (Grown.trans G4.out hg))
  have R5 := Lib.hid (R1.out.grow (Grown.trans G4.out hg))
  clear hg G4 HO4 T1 R1 G1 CS
  have hcv := conv_at R5.out Hb.out d w5 (Grown.refl _)
  go_wp2_with fail
  refine (CX.out _).mono ?_
  rintro e w6 ⟨rfl, rfl⟩
  clear hcv CX
  go_wp2
  go_ret
  exact ⟨rfl, G5.out⟩
end Go.Proofs.YtpfhpopfakfjhaaDoor.S10
