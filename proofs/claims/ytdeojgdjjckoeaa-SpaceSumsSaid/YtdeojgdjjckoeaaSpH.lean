/-
  The reference's space: its rows change; Take, Use.
-/
import Derived.Test.YtdeojgdjjckoeaaSpG
namespace Go.Proofs.Ytdeojgdjjckoeaa.S15
open Cf
open Go.RowKit
set_option linter.unusedVariables false
set_option linter.unusedSimpArgs false
/-- What a call of the reference's leaves: its rows where they were, or new. -/
def SOd (base R : Nat) (w : World) (F : Nat → Prop) (s' : Sp) (w' : World) : Prop :=
  ∃ Au Ag, Sv w' base R Au Ag s' ∧ (∀ k, SvF R Au Ag k → F k ∨ w.heap.size ≤ k) ∧ Ch F w w'
section
variable {w w1 w' : World} {base R : Nat} {Au Ag : Option Addr} {s : Sp}
theorem OwZ.less {A : Option Addr} {c B : Nat} {l : List Int} (h : OwZ w B A c l) (hB : base ≤ B) : OwZ w base A c l := by
  refine ⟨h.1, ?_⟩
  rcases h.2 with h1 | ⟨g, cap, cur, h1, h2, r⟩
  · exact .inl h1
  · exact .inr ⟨g, cap, cur, h1, by omega, r⟩
theorem OwZ.offR {A : Option Addr} {c : Nat} {l : List Int} (h : OwZ w base A c l) (hn : ∀ x, A = some x → x.block ≠ R) (j : Nat) (u : Value) : OwZ (w.setCell ⟨R, j, none⟩ u) base A c l :=
  h.keep fun x hx => heap_setCell_other w _ _ _ (hn x hx)
/-- Other used ones, in a new row. -/
theorem Sv.setUsed (h : Sv w base R Au Ag s) (hg : Grown w w1) {A' : Option Addr} {c' n' : Nat} {l' : List Int} (ho : OwZ w1 w.heap.size A' c' l') (hn : l'.length = n') :
    Sv (w1.setCell ⟨R, 2, none⟩ (.slice A' n' c')) base R A' Ag { s with used := l' } ∧ (∀ k, SvF R A' Ag k → SvF R Au Ag k ∨ w.heap.size ≤ k) ∧ Ch (SvF R Au Ag) w (w1.setCell ⟨R, 2, none⟩ (.slice A' n' c')) := by
  subst hn
  have h1 := h.grow hg
  obtain ⟨cu, cg, hR, h2, h3⟩ := h1.ex
  have hRl := (h.lt R (.inl rfl))
  have hnu : ∀ x, A' = some x → x.block ≠ R := fun x hx e => by have := (ho.lt x hx).1; omega
  refine ⟨⟨h.bR, hnu, h.ng, fun x y hx hy e => ?_, ⟨c', cg, ?_, (ho.less (by omega)).offR hnu 2 _, h3.offR h.ng 2 _⟩⟩, fun k hk => ?_, Ch.setCell (Ch.grown hg) (p := ⟨R, 2, none⟩) (.inl (.inl rfl)) _⟩
  · have e1 := (ho.lt x hx).1
    have e2 := (h.lt y.block (.inr (.inr ⟨y, hy, rfl⟩))).2
    omega
  · rw [heap_setCell_same w1 R 2 _ _ _ hR]
    rfl
  · rcases hk with e | ⟨x, hx, e⟩ | ⟨x, hx, e⟩
    · exact .inl (.inl e)
    · exact .inr (by have := (ho.lt x hx).1; omega)
    · exact .inl (.inr (.inr ⟨x, hx, e⟩))
theorem SOd.refl (h : Sv w base R Au Ag s) : SOd base R w (SvF R Au Ag) s w := ⟨Au, Ag, h, fun k hk => .inl hk, Ch.refl _ _⟩
theorem SOd.grown (h : Sv w base R Au Ag s) (hg : Grown w w') : SOd base R w (SvF R Au Ag) s w' := ⟨Au, Ag, h.grow hg, fun k hk => .inl hk, Ch.grown hg⟩
theorem SOd.trans {F : Nat → Prop} {s1 s2 : Sp} {w2 : World} (h : SOd base R w F s1 w1) (h2 : ∀ Au Ag, Sv w1 base R Au Ag s1 → SOd base R w1 (SvF R Au Ag) s2 w2) : SOd base R w F s2 w2 := by
  obtain ⟨Au1, Ag1, a1, b1, c1⟩ := h
  obtain ⟨Au2, Ag2, a2, b2, c2⟩ := h2 Au1 Ag1 a1
  refine ⟨Au2, Ag2, a2, fun k hk => ?_, Ch.then c1 c2 fun k hk hf => ?_⟩
  · rcases b2 k hk with h3 | h3
    · exact b1 k h3
    · exact .inr (Nat.le_trans c1.size h3)
  · rcases b1 k hf with h3 | h3
    · exact h3
    · omega
theorem least_step (s : Sp) (i k : Nat) (h : isFree s (s.first + i) = false) : least s i (k + 1) = least s (i + 1) k := by
  show (if isFree s (s.first + i) then _ else _) = _
  rw [h]; rfl
theorem least_hit (s : Sp) (i k : Nat) (h : isFree s (s.first + i) = true) : least s i (k + 1) = some (s.first + i) := by
  show (if isFree s (s.first + i) then _ else _) = _
  rw [h]; rfl
set_option maxHeartbeats 4000000 in
theorem refTake_any (h : Sv w base R Au Ag s) (hz : Sz s) :
    Calls Try.prog 11 #[.pointer (some ⟨R, 0, none⟩)] w fun e w' => e = .returned (.tuple #[.int .i64 (spTake s).1, .int .i64 (spTake s).2.1]) ∧ SOd base R w (SvF R Au Ag) (spTake s).2.2 w' := by
  have H := Lib.hid h
  have HZ := Lib.hid hz
  obtain ⟨cu, cg, l1, l2, q0, q1, q2, q3, r1, r2⟩ := h.cells
  obtain ⟨N, hN⟩ : ∃ N, N = (s.last - s.first).toNat := ⟨_, rfl⟩
  have HNN := Lib.hid hN
  obtain ⟨f, hf⟩ : ∃ x, x = s.first := ⟨_, rfl⟩
  obtain ⟨t, ht⟩ : ∃ x, x = s.last := ⟨_, rfl⟩
  obtain ⟨nu, hnu⟩ : ∃ x, x = s.used.length := ⟨_, rfl⟩
  have b3 : 0 ≤ f := by rw [hf]; exact hz.2.2.1
  have b4 : f ≤ t := by rw [hf, ht]; exact hz.2.2.2.1
  have b5 : t ≤ 65536 := by rw [ht]; exact hz.2.2.2.2
  have hNt : (N : Int) = t - f := by rw [hN, hf, ht] ; rw [hf, ht] at b4; omega
  have HF := Lib.hid hf
  have HNU := Lib.hid hnu
  have HP := Lib.hid (fun (m : Int) => refPut_any (c := cu) (n := nu) r1 hnu.symm (by rw [hnu]; exact l1) (by rw [hnu]; have := hz.1; omega) m)
  rw [← hf] at q0
  rw [← ht] at q1
  rw [← hnu] at q2
  have hHs : ∀ j, w.frozen? ⟨R, j, none⟩ = false := fun j => by obtain ⟨_, _, hR, _⟩ := h.ex; exact frozen_of_row w R j _ _ hR
  clear h hz hN hf ht hnu r1 r2 l1 l2 q3
  go_enter Try.func11, Try.ntmps11
  go_wp2
  go_loopw [4] (fun v4 wr => ∃ i : Nat, v4 = .int .i64 (f + i) ∧ i ≤ N ∧ Hid (least s 0 N = least s i (N - i)) ∧ wr = w) (fun v4 _ => (t - intOf v4).toNat)
  case atStart => exact ⟨0, by simp, Nat.zero_le _, rfl, rfl⟩
  case round =>
    obtain ⟨i, rfl, hi, HI, rfl⟩ := hrel
    by_cases hlt : i < N
    · have bi : f + (i : Int) < t := by omega
      go_wp2_with fail
      refine (refFree_any H.out HZ.out (f + i)).mono ?_
      rintro e w1 ⟨rfl, rfl⟩
      obtain ⟨fr, hfr⟩ : ∃ fr, fr = isFree s (f + i) := ⟨_, rfl⟩
      rw [← hfr]
      have HFR := Lib.hid hfr
      clear hfr
      cases fr with
      | true =>
        have HE := Lib.hid (show spTake s = (f + i, 0, { s with used := ins s.used (f + i) }) by
          unfold spTake
          rw [← HNN.out, HI.out, show N - i = (N - i - 1) + 1 by omega, least_hit s i _ (by rw [← HF.out]; exact HFR.out.symm), ← HF.out])
        go_wp2_with fail
        refine (HP.out (f + i)).mono ?_
        rintro e w2 ⟨A9, c9, rfl, ho9, hg9⟩
        have R2 := Lib.hid (H.out.grow hg9)
        obtain ⟨n9, hn9⟩ : ∃ n9, n9 = (ins s.used (f + i)).length := ⟨_, rfl⟩
        rw [← hn9]
        obtain ⟨su1, su2, su3⟩ := H.out.setUsed hg9 ho9 hn9.symm
        have U1 := Lib.hid su1
        have U2 := Lib.hid su2
        have U3 := Lib.hid su3
        have hf9 : w2.frozen? ⟨R, 2, none⟩ = false := by obtain ⟨_, _, hR, _⟩ := R2.out.ex; exact frozen_of_row w2 R 2 _ _ hR
        have hc9 : ∃ u, w2.cell? ⟨R, 2, none⟩ = some u := by obtain ⟨_, _, hR, _⟩ := R2.out.ex; exact ⟨_, cell_of_row w2 R 2 _ _ (0, 0) hR⟩
        obtain ⟨u9, hc9⟩ := hc9
        clear su1 su2 su3 ho9 hg9 hn9 q0 q1 q2 hHs
        go_wp2
        go_ret2
        rw [HE.out]
        exact ⟨rfl, A9, Ag, U1.out, U2.out, U3.out⟩
      | false =>
        have HS := Lib.hid (show least s 0 N = least s (i + 1) (N - (i + 1)) by
          rw [HI.out, show N - i = (N - (i + 1)) + 1 by omega, least_step s i _ (by rw [← HF.out]; exact HFR.out.symm)])
        go_wp2
        exact ⟨⟨i + 1, by simp; omega, by omega, HS.out, trivial⟩, by simp [intOf]; omega⟩
    · have bi : ¬ (f + (i : Int) < t) := by omega
      have HE := Lib.hid (show spTake s = (0, 12, s) by
        unfold spTake
        rw [← HNN.out, HI.out, show N - i = 0 by omega]
        rfl)
      go_wp2
      go_ret2
      rw [HE.out]
      exact ⟨rfl, SOd.refl H.out⟩
end
end Go.Proofs.Ytdeojgdjjckoeaa.S15
