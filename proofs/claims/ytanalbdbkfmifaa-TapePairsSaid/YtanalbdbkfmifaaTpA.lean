/-
  law11's awake, out of the program's contracts.
-/
import Derived.Test.YtanalbdbkfmifaaTpC
namespace Go.Proofs.Ytanalbdbkfmifaa.S11
open Go.RowKit
set_option linter.unusedVariables false
set_option linter.unusedSimpArgs false

set_option maxHeartbeats 4000000 in
theorem awakeT {Lz : Tab} (K : TapeOk Lz) (w : World) : Calls Try.prog 7 #[] w fun e w' => e = .returned (.bool true) ∧ Grown w w' := by
  go_enter Try.func7, Try.ntmps7
  go_wp2_with fail
  have G0 := Lib.hid (alloc_below w (.cells (bvs [1, 2, 3]).toArray 5))
  have R0 := Lib.hid ((Row.new w [1, 2, 3]).rd (B := (w.alloc (.cells (bvs [1, 2, 3]).toArray 5)).heap.size) (by simp))
  rw [show #[Value.int .u8 1, Value.int .u8 2, Value.int .u8 3] = (bvs [1, 2, 3]).toArray from rfl]
  generalize w.alloc _ = w0 at G0 R0 ⊢
  refine (K.new (some ⟨w.heap.size, 0, none⟩) 3 3 [1, 2, 3] w0 R0.out rfl (by omega) (by omega)).mono ?_
  rintro e w1 ⟨G, F1, rfl, hl, hF, hg⟩
  have Z1 := Lib.hid (show Since Lz w w1 G F1 (emp [1, 2, 3]) from ⟨hl, fun k hk => Nat.le_trans G0.out.size (hF k hk), Grown.trans G0.out hg⟩)
  clear hl hF hg G0 R0
  go_wp2_with fail
  refine (K.func w1 G F1 (emp [1, 2, 3]) [102] [113] 2 Z1.out.1 (by unfold Few; decide) (by decide) (by decide) (by decide)).mono ?_
  rintro e w2 ⟨A2, n2, c2, F2, rfl, hl, hc, hr, ha, hz, hf, hch⟩
  rw [ex1] at hl hr ha hz
  obtain rfl : n2 = 2 := by simpa using hl.symm
  have Z2 := Lib.hid (Z1.out.step hz hf hch)
  have hcv : (convert 22 9 (.slice A2 2 c2)).run Try.prog w2 = .ok (.string ⟨#[1, 2]⟩) w2 := conv hr c2
  clear hl hc hr ha hz hf hch Z1
  go_wp2_with fail
  refine (K.func w2 G F2 w1S [102] [113] 2 Z2.out.1 (by unfold Few; decide) (by decide) (by decide) (by decide)).mono ?_
  rintro e w3 ⟨A3, n3, c3, F3, rfl, hl, hc, hr, ha, hz, hf, hch⟩
  rw [ex2] at hl hr ha hz
  obtain rfl : n3 = 2 := by simpa using hl.symm
  have Z3 := Lib.hid (Z2.out.step hz hf hch)
  have hcv : (convert 22 9 (.slice A3 2 c3)).run Try.prog w3 = .ok (.string ⟨#[1, 2]⟩) w3 := conv hr c3
  clear hl hc hr ha hz hf hch Z2
  go_wp2_with fail
  have V3 := Lib.hid (Z3.out.grow K (alloc_below w3 (.cells (bvs [9]).toArray 5)))
  have R3 := Lib.hid ((Row.new w3 [9]).rd (B := (w3.alloc (.cells (bvs [9]).toArray 5)).heap.size) (by simp))
  have L3 := Lib.hid (show ∀ k, F3 k → k < w3.heap.size from K.foot w3 G F3 _ Z3.out.1)
  obtain ⟨g3, hg3⟩ : ∃ g3, g3 = w3.heap.size := ⟨_, rfl⟩
  rw [← hg3] at R3 L3 ⊢
  rw [show #[Value.int .u8 9] = (bvs [9]).toArray from rfl]
  generalize w3.alloc _ = v3 at V3 R3 ⊢
  refine (K.forw v3 G F3 w1S [112] (some ⟨g3, 0, none⟩) 1 1 [9] V3.out.1 (by unfold Few; decide) (by decide) (by omega) rfl (by omega) R3.out (fun x hx _ hf => by
    simp only [Option.some.injEq] at hx
    subst hx
    have := L3.out _ hf
    simp at this)).mono ?_
  rintro e w4 ⟨A4, n4, c4, F4, rfl, hl, hc, hr, ha, hz, hf, hch⟩
  rw [ex3] at hl hr hz
  obtain rfl : n4 = 1 := by simpa using hl.symm
  have Z4 := Lib.hid (V3.out.step hz hf hch)
  have hcv : (convert 22 9 (.slice A4 1 c4)).run Try.prog w4 = .ok (.string ⟨#[3]⟩) w4 := conv hr c4
  clear hl hc hr ha hz hf hch Z3 V3 R3 L3 hg3
  go_wp2_with fail
  have V4 := Lib.hid (Z4.out.grow K (alloc_below w4 (.cells (bvs [3]).toArray 5)))
  have R4 := Lib.hid ((Row.new w4 [3]).rd (B := (w4.alloc (.cells (bvs [3]).toArray 5)).heap.size) (by simp))
  have L4 := Lib.hid (show ∀ k, F4 k → k < w4.heap.size from K.foot w4 G F4 _ Z4.out.1)
  obtain ⟨g4, hg4⟩ : ∃ g4, g4 = w4.heap.size := ⟨_, rfl⟩
  rw [← hg4] at R4 L4 ⊢
  rw [show #[Value.int .u8 3] = (bvs [3]).toArray from rfl]
  generalize w4.alloc _ = v4 at V4 R4 ⊢
  refine (K.back v4 G F4 w2S [112] (some ⟨g4, 0, none⟩) 1 1 [3] V4.out.1 (by unfold Few; decide) (by decide) (by omega) rfl (by omega) R4.out (fun x hx _ hf => by
    simp only [Option.some.injEq] at hx
    subst hx
    have := L4.out _ hf
    simp at this)).mono ?_
  rintro e w5 ⟨A5, n5, c5, F5, rfl, hl, hc, hr, ha, hz, hf, hch⟩
  rw [ex4] at hl hr hz
  obtain rfl : n5 = 1 := by simpa using hl.symm
  have Z5 := Lib.hid (V4.out.step hz hf hch)
  have hcv : (convert 22 9 (.slice A5 1 c5)).run Try.prog w5 = .ok (.string ⟨#[9]⟩) w5 := conv hr c5
  clear hl hc hr ha hz hf hch Z4 V4 R4 L4 hg4
  go_wp2_with fail
  have V5 := Lib.hid (Z5.out.grow K (alloc_below w5 (.cells (bvs [8]).toArray 5)))
  have R5 := Lib.hid ((Row.new w5 [8]).rd (B := (w5.alloc (.cells (bvs [8]).toArray 5)).heap.size) (by simp))
  have L5 := Lib.hid (show ∀ k, F5 k → k < w5.heap.size from K.foot w5 G F5 _ Z5.out.1)
  obtain ⟨g5, hg5⟩ : ∃ g5, g5 = w5.heap.size := ⟨_, rfl⟩
  rw [← hg5] at R5 L5 ⊢
  rw [show #[Value.int .u8 8] = (bvs [8]).toArray from rfl]
  generalize w5.alloc _ = v5 at V5 R5 ⊢
  refine (K.forw v5 G F5 w2S [112] (some ⟨g5, 0, none⟩) 1 1 [8] V5.out.1 (by unfold Few; decide) (by decide) (by omega) rfl (by omega) R5.out (fun x hx _ hf => by
    simp only [Option.some.injEq] at hx
    subst hx
    have := L5.out _ hf
    simp at this)).mono ?_
  rintro e w6 ⟨A6, n6, c6, F6, rfl, hl, hc, hr, ha, hz, hf, hch⟩
  rw [ex5] at hl hr
  obtain rfl : n6 = 1 := by simpa using hl.symm
  have G6 := Lib.hid (V5.out.step hz hf hch).2.2
  have hcv : (convert 22 9 (.slice A6 1 c6)).run Try.prog w6 = .ok (.string ⟨#[0]⟩) w6 := conv hr c6
  clear hl hc hr ha hz hf hch Z5 V5 R5 L5 hg5
  go_wp2
  go_ret
  exact ⟨rfl, G6.out⟩
end Go.Proofs.Ytanalbdbkfmifaa.S11
