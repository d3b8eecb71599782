/-
  Contracts of the program's apply (cts): without a cipher, refused, answered; the deferred closure that finds nothing to recover.
-/
import Derived.Test.YtgfmdjagggnfbaaXqR
import Derived.Test.YtgfmdjagggnfbaaPdG
import Derived.Defers
import Derived.Recover
namespace Go.Proofs.Ytgfmdjagggnfbaa.S9
open Go.RowKit
open Go.Proofs.Ytgfmdjagggnfbaa.S7 hiding intOf
open Go.Proofs.Ytgfmdjagggnfbaa.S8 (Br)
set_option linter.unusedVariables false
set_option linter.unusedSimpArgs false

theorem idle_any (p q : Addr) (w : World) :
    CallsD Try.prog 25 #[.pointer (some p), .pointer (some q)] .returning w fun e u' w' => e = .returned (.tuple #[]) ∧ u' = .returning ∧ w' = w := by
  refine callsD_of_wpS Try.func25 rfl fun c₀ cs hu => ?_
  apply wpS_seq
  apply wpS_region
  simp [wpOpsS, go_sem, recoverD, hu, Try.ntmps25, Exit.thenS]
  refine wpS_cond (t := false) (by simp [Act.eval, Array.replicate]) ?_
  simp only [Bool.false_eq_true, if_false]
  refine wpS_of_wp (wp_skip ?_)
  cases c₀
  simp_all [bodyPostS, results, Try.results25]

set_option maxHeartbeats 4000000 in
theorem apply_nil (f : FuncId) (B : Option Addr) (bl d : Nat) (w : World) :
    Calls Try.prog 14 #[.func (.func f) #[] #[], .nilIface, .slice B bl d] w fun e w' => ∃ A c, e = .returned (.tuple #[.slice A 0 c, .int .i64 1]) ∧ Grown w w' := by
  go_enter_defers Try.func14, Try.ntmps14
  go_wp2
  obtain ⟨W, hW⟩ : ∃ W, W = (w.alloc (.cells #[.slice none 0 0] 23)).alloc (.cells #[.int .i64 1] 26) := ⟨_, rfl⟩
  have hg : Grown w W := by rw [hW]; exact Grown.trans (alloc_below w _) (alloc_below _ _)
  have h1 : W.cell? ⟨w.heap.size, 0, none⟩ = some (.slice none 0 0) := by rw [hW]; simp [go_sem]
  have h2 : W.cell? ⟨w.heap.size + 1, 0, none⟩ = some (.int .i64 1) := by rw [hW]; simp [go_sem]
  rw [← hW]
  clear hW
  simp [bodyPostD, Leaves, settle, results, Try.results14, go_sem, h1, h2]
  exact hg
set_option maxHeartbeats 4000000 in
theorem apply_bad (f : FuncId) (G : Nat) (B : Option Addr) (bl d : Nat) (w : World) (hno : bl < 16 ∨ 256 < bl) :
    Calls Try.prog 14 #[.func (.func f) #[] #[], .iface 25 (.pointer (some ⟨G, 0, none⟩)), .slice B bl d] w fun e w' => ∃ A c, e = .returned (.tuple #[.slice A 0 c, .int .i64 2]) ∧ Grown w w' := by
  have fin : ∀ (W : World), W = (w.alloc (.cells #[.slice none 0 0] 23)).alloc (.cells #[.int .i64 2] 26) → Grown w W ∧ W.cell? ⟨w.heap.size, 0, none⟩ = some (.slice none 0 0) ∧ W.cell? ⟨w.heap.size + 1, 0, none⟩ = some (.int .i64 2) := fun W hW =>
    ⟨by rw [hW]; exact Grown.trans (alloc_below w _) (alloc_below _ _), by rw [hW]; simp [go_sem], by rw [hW]; simp [go_sem]⟩
  by_cases hlo : bl < 16
  · have b1 : (bl : Int) < 16 := by omega
    clear hlo hno
    go_enter_defers Try.func14, Try.ntmps14
    go_wp2
    obtain ⟨W, hW⟩ : ∃ W, W = (w.alloc (.cells #[.slice none 0 0] 23)).alloc (.cells #[.int .i64 2] 26) := ⟨_, rfl⟩
    obtain ⟨hg, h1, h2⟩ := fin W hW
    rw [← hW]
    clear hW fin
    simp [bodyPostD, Leaves, settle, results, Try.results14, go_sem, h1, h2]
    exact hg
  · have b1 : ¬ (bl : Int) < 16 := by omega
    have b2 : (256 : Int) < bl := by omega
    clear hlo hno
    go_enter_defers Try.func14, Try.ntmps14
    go_wp2
    obtain ⟨W, hW⟩ : ∃ W, W = (w.alloc (.cells #[.slice none 0 0] 23)).alloc (.cells #[.int .i64 2] 26) := ⟨_, rfl⟩
    obtain ⟨hg, h1, h2⟩ := fin W hW
    rw [← hW]
    clear hW fin
    simp [bodyPostD, Leaves, settle, results, Try.results14, go_sem, h1, h2]
    exact hg
set_option maxHeartbeats 4000000 in
theorem apply_ok (f : FuncId) (G : Nat) (B : Option Addr) (bl d : Nat) (l : List UInt8) (w : World) (hlo : 16 ≤ bl) (hhi : bl ≤ 256) (hl : l.length = bl)
    (hcf : ∀ (args : Array Value) (V : World), (callFunc f args).run Try.prog V = .ok (.enter f args) V)
    (hf : ∀ w', Grown w w' → Calls Try.prog f #[.iface 25 (.pointer (some ⟨G, 0, none⟩)), .slice B bl d] w' fun e w'' => ∃ g c, e = .returned (.slice (some ⟨g, 0, none⟩) bl c) ∧ w'.heap.size ≤ g ∧ bl ≤ c ∧ c ≤ maxLen ∧ Rd w'' w''.heap.size (some ⟨g, 0, none⟩) l ∧ Grown w' w'') :
    Calls Try.prog 14 #[.func (.func f) #[] #[], .iface 25 (.pointer (some ⟨G, 0, none⟩)), .slice B bl d] w fun e w' => ∃ A c, e = .returned (.tuple #[.slice A bl c, .int .i64 0]) ∧ bl ≤ c ∧ c ≤ maxLen ∧ Rd w' w'.heap.size A l ∧ Grown w w' := by
  have b1 : ¬ (bl : Int) < 16 := by omega
  have b2 : ¬ (256 : Int) < bl := by omega
  have HF := Lib.hid hf
  have HL := Lib.hid hl
  have hmf : ∀ (fn : Fn) (first cap : Array Value) (V : World), (Instr.makeFunc fn first cap).run Try.prog V = .ok (.func fn first cap) V := fun _ _ _ _ => rfl
  clear hf hl
  go_enter_defers Try.func14, Try.ntmps14
  go_wp2_with fail
  have G1 := Lib.hid (Grown.trans (alloc_below w (.cells #[.slice none 0 0] 23)) (alloc_below _ (.cells #[.int .i64 0] 26)))
  have C1 := Lib.hid (show ((w.alloc (.cells #[.slice none 0 0] 23)).alloc (.cells #[.int .i64 0] 26)).heap[w.heap.size]? = some (.cells #[.slice none 0 0] 23 (0, 0)) from first_new w _ _)
  have C2 := Lib.hid (show ((w.alloc (.cells #[.slice none 0 0] 23)).alloc (.cells #[.int .i64 0] 26)).heap[w.heap.size + 1]? = some (.cells #[.int .i64 0] 26 (0, 0)) from two_new w _ _)
  have S1 := Lib.hid (show ((w.alloc (.cells #[.slice none 0 0] 23)).alloc (.cells #[.int .i64 0] 26)).heap.size = w.heap.size + 2 by simp)
  generalize (w.alloc _).alloc _ = w1 at G1 C1 C2 S1 ⊢
  refine (HF.out w1 G1.out).mono ?_
  rintro e w2 ⟨g, c, rfl, hgb, hbc, hcm, hr, hg2⟩
  have hge : w.heap.size + 2 ≤ g := by have := S1.out; omega
  have G2 := Lib.hid (Grown.trans G1.out hg2)
  have D1 := Lib.hid ((hg2.block _ (by have := S1.out; omega)).trans C1.out)
  have D2 := Lib.hid ((hg2.block _ (by have := S1.out; omega)).trans C2.out)
  have R2 := Lib.hid hr
  clear hgb hr hg2 C1 C2 G1 S1
  have hc1 : w2.cell? ⟨w.heap.size, 0, none⟩ = some (.slice none 0 0) := cell_of_row w2 _ 0 _ _ (0, 0) D1.out
  have hc2 : w2.cell? ⟨w.heap.size + 1, 0, none⟩ = some (.int .i64 0) := cell_of_row w2 _ 0 _ _ (0, 0) D2.out
  have hf1 : w2.frozen? ⟨w.heap.size, 0, none⟩ = false := frozen_of_row w2 _ 0 _ _ D1.out
  have hf2 : w2.frozen? ⟨w.heap.size + 1, 0, none⟩ = false := frozen_of_row w2 _ 0 _ _ D2.out
  go_wp2
  have G3 := Lib.hid (show Grown w ((w2.setCell ⟨w.heap.size, 0, none⟩ (.slice (some ⟨g, 0, none⟩) bl c)).setCell ⟨w.heap.size + 1, 0, none⟩ (.int .i64 0)) from
    Below.setCell (Below.setCell G2.out (p := ⟨w.heap.size, 0, none⟩) (Nat.le_refl _) _) (p := ⟨w.heap.size + 1, 0, none⟩) (by simp) _)
  have R3 := Lib.hid (show Rd ((w2.setCell ⟨w.heap.size, 0, none⟩ (.slice (some ⟨g, 0, none⟩) bl c)).setCell ⟨w.heap.size + 1, 0, none⟩ (.int .i64 0)) w2.heap.size (some ⟨g, 0, none⟩) l by
    rcases R2.out with e | ⟨b5, o5, e, hb5, hc5⟩
    · exact .inl e
    · simp only [Option.some.injEq, Addr.mk.injEq] at e
      obtain ⟨rfl, rfl, _⟩ := e
      refine .inr ⟨_, _, rfl, hb5, fun j hj => ?_⟩
      rw [World.cell?_setCell_other _ _ _ _ (by simp <;> omega), World.cell?_setCell_other _ _ _ _ (by simp <;> omega)]
      exact hc5 j hj)
  have S3 : ((w2.setCell ⟨w.heap.size, 0, none⟩ (.slice (some ⟨g, 0, none⟩) bl c)).setCell ⟨w.heap.size + 1, 0, none⟩ (.int .i64 0)).heap.size = w2.heap.size := by simp
  have k1 : ((w2.setCell ⟨w.heap.size, 0, none⟩ (.slice (some ⟨g, 0, none⟩) bl c)).setCell ⟨w.heap.size + 1, 0, none⟩ (.int .i64 0)).cell? ⟨w.heap.size, 0, none⟩ = some (.slice (some ⟨g, 0, none⟩) bl c) := by simp [go_sem, hc1]
  have k2 : ((w2.setCell ⟨w.heap.size, 0, none⟩ (.slice (some ⟨g, 0, none⟩) bl c)).setCell ⟨w.heap.size + 1, 0, none⟩ (.int .i64 0)).cell? ⟨w.heap.size + 1, 0, none⟩ = some (.int .i64 0) := by simp [go_sem, hc2]
  rw [← S3] at R3
  clear S3 hc1 hc2 hf1 hf2 D1 D2 R2 G2 HF hmf
  generalize (w2.setCell _ _).setCell _ _ = w3 at G3 R3 k1 k2 ⊢
  refine leaves_cons (f := 25) (args := #[.pointer (some ⟨w.heap.size, 0, none⟩), .pointer (some ⟨w.heap.size + 1, 0, none⟩)]) (by simp) (by simp [go_sem]) ?_
  refine (idle_any ⟨w.heap.size, 0, none⟩ ⟨w.heap.size + 1, 0, none⟩ w3).mono ?_
  rintro e u' w'' ⟨rfl, rfl, rfl⟩
  simp [Leaves, settle, results, Try.results14, go_sem, k1, k2]
  exact ⟨_, _, ⟨rfl, rfl⟩, hbc, hcm, R3.out, G3.out⟩
end Go.Proofs.Ytgfmdjagggnfbaa.S9
