/-
  law15's awake out of what is asked of the program.
-/
import Derived.Test.YtdeojgdjjckoeaaSpC
namespace Go.Proofs.Ytdeojgdjjckoeaa.S15
open Cf
open Go.RowKit
set_option linter.unusedVariables false
set_option linter.unusedSimpArgs false
section
variable {D : STab}
theorem use1 (K : SpaceOk D) {w w1 : World} {G : Nat} {F : Nat → Prop} {s : Sp} (Z : SSince D w w1 G F s) (hs : SpOk s) (n : Int) (hn : Ir n) (t : TypeId) :
    Calls Try.prog 12 #[.pointer (some ⟨G, 0, none⟩), .slice (some ⟨w1.heap.size, 0, none⟩) 1 1] (w1.alloc (.cells #[.int .i64 n] t)) fun e w' => e = .returned (.int .i64 (spUse s [n]).1) ∧ ∃ F', SSince D w w' G F' (spUse s [n]).2 := by
  have Z2 := Z.grow K (alloc_below w1 (.cells #[.int .i64 n] t))
  refine (K.use _ G F s (some ⟨w1.heap.size, 0, none⟩) 1 1 [n] Z2.1 hs (one1 w1 n t) rfl (by omega) (by omega) (fun x hx => by rw [List.mem_singleton.1 hx]; exact hn) (fun x hx _ hf => ?_)).mono ?_
  · simp only [Option.some.injEq] at hx
    subst hx
    have h1 : w1.heap.size < w1.heap.size := K.foot w1 G F s Z.1 _ hf
    omega
  · rintro e w' ⟨rfl, h⟩
    obtain ⟨F', h1, _⟩ := Z2.step h
    exact ⟨rfl, F', h1⟩
theorem give1 (K : SpaceOk D) {w w1 : World} {G : Nat} {F : Nat → Prop} {s : Sp} (Z : SSince D w w1 G F s) (hs : SpOk s) (n : Int) (hn : Ir n) (t : TypeId) :
    Calls Try.prog 14 #[.pointer (some ⟨G, 0, none⟩), .slice (some ⟨w1.heap.size, 0, none⟩) 1 1] (w1.alloc (.cells #[.int .i64 n] t)) fun e w' => e = .returned (.int .i64 (spGive s [n]).1) ∧ ∃ F', SSince D w w' G F' (spGive s [n]).2 ∧ (∀ k, F' k → F k ∨ (w1.alloc (.cells #[.int .i64 n] t)).heap.size ≤ k) ∧ Ch F (w1.alloc (.cells #[.int .i64 n] t)) w' := by
  have Z2 := Z.grow K (alloc_below w1 (.cells #[.int .i64 n] t))
  refine (K.give _ G F s (some ⟨w1.heap.size, 0, none⟩) 1 1 [n] Z2.1 hs (one1 w1 n t) rfl (by omega) (by omega) (fun x hx => by rw [List.mem_singleton.1 hx]; exact hn) (fun x hx _ hf => ?_)).mono ?_
  · simp only [Option.some.injEq] at hx
    subst hx
    have h1 : w1.heap.size < w1.heap.size := K.foot w1 G F s Z.1 _ hf
    omega
  · rintro e w' ⟨rfl, h⟩
    exact ⟨rfl, Z2.step h⟩
theorem back1 (K : SpaceOk D) {w w1 : World} {G : Nat} {F : Nat → Prop} {s : Sp} (Z : SSince D w w1 G F s) (hs : SpOk s) (n : Int) (hn : Ir n) (t : TypeId) :
    Calls Try.prog 19 #[.pointer (some ⟨G, 0, none⟩), .slice (some ⟨w1.heap.size, 0, none⟩) 1 1] (w1.alloc (.cells #[.int .i64 n] t)) fun e w' => e = .returned (.int .i64 (spBack s [n]).1) ∧ ∃ F', SSince D w w' G F' (spBack s [n]).2 := by
  have Z2 := Z.grow K (alloc_below w1 (.cells #[.int .i64 n] t))
  refine (K.back _ G F s (some ⟨w1.heap.size, 0, none⟩) 1 1 [n] Z2.1 hs (one1 w1 n t) rfl (by omega) (by omega) (fun x hx => by rw [List.mem_singleton.1 hx]; exact hn) (fun x hx _ hf => ?_)).mono ?_
  · simp only [Option.some.injEq] at hx
    subst hx
    have h1 : w1.heap.size < w1.heap.size := K.foot w1 G F s Z.1 _ hf
    omega
  · rintro e w' ⟨rfl, h⟩
    obtain ⟨F', h1, _⟩ := Z2.step h
    exact ⟨rfl, F', h1⟩
set_option maxHeartbeats 2000000 in
theorem awakeSp (K : SpaceOk D) (w : World) : Calls Try.prog 7 #[] w fun e w' => e = .returned (.bool true) ∧ Grown w w' := by
  have KK := Lib.hid K
  clear K
  go_enter Try.func7, Try.ntmps7
  go_wp2_with fail
  refine (KK.out.new w 2 5 (by omega) (by omega) (by omega)).mono ?_
  rintro e w1 ⟨G, F, rfl, hd, hF, hg⟩
  have Z0 := Lib.hid (show SSince D w w1 G F (spNew 2 5) from ⟨hd, hF, hg⟩)
  have O0 := spOk_new 2 5 (by omega) (by omega) (by omega)
  clear hd hF hg
  have T1 : spTake (spNew 2 5) = (2, 0, ⟨2, 5, [2], []⟩) := rfl
  have O1 := ok_take O0
  rw [T1] at O1
  go_wp2_with fail
  refine (KK.out.take w1 G F _ Z0.out.1 O0).mono ?_
  rintro e w2 ⟨rfl, h1⟩
  obtain ⟨F1, hz, _⟩ := Z0.out.step h1
  rw [T1] at hz ⊢
  have Z1 := Lib.hid hz
  clear hz h1 Z0 O0 T1
  have T2 : spTake ⟨2, 5, [2], []⟩ = (3, 0, ⟨2, 5, [2, 3], []⟩) := rfl
  have O2 := ok_take O1
  rw [T2] at O2
  go_wp2_with fail
  refine (KK.out.take w2 G F1 _ Z1.out.1 O1).mono ?_
  rintro e w3 ⟨rfl, h1⟩
  obtain ⟨F2, hz, _⟩ := Z1.out.step h1
  rw [T2] at hz ⊢
  have Z2 := Lib.hid hz
  clear hz h1 Z1 O1 T2
  have T3 : spGive ⟨2, 5, [2, 3], []⟩ [2] = (0, ⟨2, 5, [3], [2]⟩) := rfl
  have O3 := ok_give O2 [2]
  rw [T3] at O3
  go_wp2_with fail
  refine (give1 KK.out Z2.out O2 2 (by unfold Ir; omega) _).mono ?_
  rintro e w4 ⟨rfl, F3, hz, _⟩
  rw [T3] at hz ⊢
  have Z3 := Lib.hid hz
  clear hz Z2 O2 T3
  have T4 : spTake ⟨2, 5, [3], [2]⟩ = (4, 0, ⟨2, 5, [3, 4], [2]⟩) := rfl
  have O4 := ok_take O3
  rw [T4] at O4
  go_wp2_with fail
  refine (KK.out.take w4 G F3 _ Z3.out.1 O3).mono ?_
  rintro e w5 ⟨rfl, h1⟩
  obtain ⟨F4, hz, _⟩ := Z3.out.step h1
  rw [T4] at hz ⊢
  have Z4 := Lib.hid hz
  clear hz h1 Z3 O3 T4
  have T5 : spTake ⟨2, 5, [3, 4], [2]⟩ = (0, 12, ⟨2, 5, [3, 4], [2]⟩) := rfl
  go_wp2_with fail
  refine (KK.out.take w5 G F4 _ Z4.out.1 O4).mono ?_
  rintro e w6 ⟨rfl, h1⟩
  obtain ⟨F5, hz, _⟩ := Z4.out.step h1
  rw [T5] at hz ⊢
  have Z5 := Lib.hid hz
  clear hz h1 Z4 T5
  go_wp2_with fail
  refine (KK.out.settle w6 G F5 _ Z5.out.1 O4).mono ?_
  rintro e w7 ⟨rfl, h1⟩
  obtain ⟨F6, hz, _⟩ := Z5.out.step h1
  have Z6 := Lib.hid hz
  have O6 := ok_settle O4
  clear hz h1 Z5 O4
  have T7 : spTake (spSettle ⟨2, 5, [3, 4], [2]⟩) = (2, 0, ⟨2, 5, [2, 3, 4], []⟩) := rfl
  go_wp2_with fail
  refine (KK.out.take w7 G F6 _ Z6.out.1 O6).mono ?_
  rintro e w8 ⟨rfl, h1⟩
  obtain ⟨F7, hz, _⟩ := Z6.out.step h1
  rw [T7] at hz ⊢
  have GZ := Lib.hid hz.2.2
  clear hz h1 Z6 O6 T7
  go_wp2
  go_ret
  exact ⟨rfl, GZ.out⟩
end
end Go.Proofs.Ytdeojgdjjckoeaa.S15
