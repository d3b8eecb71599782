/-
  The reference's space in memory: free, Free.
-/
import Derived.Test.YtdeojgdjjckoeaaSpF
namespace Go.Proofs.Ytdeojgdjjckoeaa.S15
open Cf
open Go.RowKit
set_option linter.unusedVariables false
set_option linter.unusedSimpArgs false
def SvC (s : Sp) (Au : Option Addr) (cu : Nat) (Ag : Option Addr) (cg : Nat) : Array Value := #[.int .i64 s.first, .int .i64 s.last, .slice Au s.used.length cu, .slice Ag s.going.length cg]
def SvF (R : Nat) (Au Ag : Option Addr) (k : Nat) : Prop := k = R ∨ (∃ x, Au = some x ∧ x.block = k) ∨ ∃ x, Ag = some x ∧ x.block = k
structure Sv (w : World) (base R : Nat) (Au Ag : Option Addr) (s : Sp) : Prop where
  bR : base ≤ R
  nu : ∀ x, Au = some x → x.block ≠ R
  ng : ∀ x, Ag = some x → x.block ≠ R
  ug : Apart Au Ag
  ex : ∃ cu cg, w.heap[R]? = some (.cells (SvC s Au cu Ag cg) 32 (0, 0)) ∧ OwZ w base Au cu s.used ∧ OwZ w base Ag cg s.going
theorem wrapI (n : Int) (h : -9223372036854775808 ≤ n ∧ n ≤ 9223372036854775807) : IntKind.i64.wrap n = n := by
  simp [IntKind.wrap, IntKind.bits, IntKind.signed]
  omega
/-- So few. -/
def Sz (s : Sp) : Prop := s.used.length ≤ 5000 ∧ s.going.length ≤ 5000 ∧ 0 ≤ s.first ∧ s.first ≤ s.last ∧ s.last ≤ 65536
section
variable {w w' : World} {base R : Nat} {Au Ag : Option Addr} {s : Sp}
theorem OwZ.lt {A : Option Addr} {c : Nat} {l : List Int} (h : OwZ w base A c l) : ∀ x, A = some x → base ≤ x.block ∧ x.block < w.heap.size := Ow.lt h
theorem OwZ.keep {A : Option Addr} {c : Nat} {l : List Int} (h : OwZ w base A c l) (hk : ∀ x, A = some x → w'.heap[x.block]? = w.heap[x.block]?) : OwZ w' base A c l := Ow.keep h hk
theorem Sv.lt (h : Sv w base R Au Ag s) : ∀ k, SvF R Au Ag k → base ≤ k ∧ k < w.heap.size := by
  obtain ⟨cu, cg, hR, h1, h2⟩ := h.ex
  rintro k (rfl | ⟨x, hx, rfl⟩ | ⟨x, hx, rfl⟩)
  · exact ⟨h.bR, lt_of_heap hR⟩
  · exact h1.lt x hx
  · exact h2.lt x hx
theorem Sv.keep (h : Sv w base R Au Ag s) (hk : ∀ k, SvF R Au Ag k → w'.heap[k]? = w.heap[k]?) : Sv w' base R Au Ag s := by
  obtain ⟨cu, cg, hR, h1, h2⟩ := h.ex
  exact { h with ex := ⟨cu, cg, (hk R (.inl rfl)).trans hR, h1.keep fun x hx => hk _ (.inr (.inl ⟨x, hx, rfl⟩)), h2.keep fun x hx => hk _ (.inr (.inr ⟨x, hx, rfl⟩))⟩ }
theorem Sv.grow (h : Sv w base R Au Ag s) (hg : Grown w w') : Sv w' base R Au Ag s := h.keep fun k hk => hg.block k (h.lt k hk).2
theorem Sv.cells (h : Sv w base R Au Ag s) : ∃ cu cg, s.used.length ≤ cu ∧ s.going.length ≤ cg ∧ w.cell? ⟨R, 0, none⟩ = some (.int .i64 s.first) ∧ w.cell? ⟨R, 1, none⟩ = some (.int .i64 s.last) ∧ w.cell? ⟨R, 2, none⟩ = some (.slice Au s.used.length cu) ∧ w.cell? ⟨R, 3, none⟩ = some (.slice Ag s.going.length cg) ∧ RdZ w w.heap.size Au s.used ∧ RdZ w w.heap.size Ag s.going := by
  obtain ⟨cu, cg, hR, h1, h2⟩ := h.ex
  exact ⟨cu, cg, h1.le, h2.le, cell_of_row w R 0 _ _ (0, 0) hR, cell_of_row w R 1 _ _ (0, 0) hR, cell_of_row w R 2 _ _ (0, 0) hR, cell_of_row w R 3 _ _ (0, 0) hR, h1.rd, h2.rd⟩
set_option maxHeartbeats 4000000 in
theorem refFree_any (h : Sv w base R Au Ag s) (hz : Sz s) (m : Int) :
    Calls Try.prog 28 #[.pointer (some ⟨R, 0, none⟩), .int .i64 m] w fun e w' => e = .returned (.bool (isFree s m)) ∧ w' = w := by
  obtain ⟨cu, cg, l1, l2, q0, q1, q2, q3, r1, r2⟩ := h.cells
  have HU := Lib.hid (refHas_any (c := cu) w.heap.size r1 rfl (by have := hz.1; omega) m)
  have HG := Lib.hid (refHas_any (c := cg) w.heap.size r2 rfl (by have := hz.2.1; omega) m)
  obtain ⟨hu, ehu⟩ : ∃ b, b = s.used.contains m := ⟨_, rfl⟩
  obtain ⟨hg, ehg⟩ : ∃ b, b = s.going.contains m := ⟨_, rfl⟩
  obtain ⟨F, hF⟩ : ∃ F, F = isFree s m := ⟨_, rfl⟩
  have HF := Lib.hid (show F = (decide (s.first ≤ m) && decide (m < s.last) && !hu && !hg) by rw [hF, ehu, ehg]; rfl)
  rw [← ehu] at HU
  rw [← ehg] at HG
  rw [← hF]
  obtain ⟨nu, hnu⟩ : ∃ x, x = s.used.length := ⟨_, rfl⟩
  obtain ⟨ng, hng⟩ : ∃ x, x = s.going.length := ⟨_, rfl⟩
  obtain ⟨f, hf⟩ : ∃ x, x = s.first := ⟨_, rfl⟩
  obtain ⟨t, ht⟩ : ∃ x, x = s.last := ⟨_, rfl⟩
  rw [← hnu] at q2 HU
  rw [← hng] at q3 HG
  rw [← hf] at q0 HF
  rw [← ht] at q1 HF
  clear h hz ehu ehg hF hnu hng hf ht r1 r2 l1 l2
  by_cases c1 : f ≤ m
  · by_cases c2 : m < t
    · go_enter Try.func28, Try.ntmps28
      go_wp2_with fail
      refine HU.out.mono ?_
      rintro e w1 ⟨rfl, rfl⟩
      cases hu with
      | true =>
        have HE := Lib.hid (show F = false by rw [HF.out]; simp)
        go_wp2
        go_ret
        exact ⟨by rw [HE.out]; rfl, rfl⟩
      | false =>
        go_wp2_with fail
        refine HG.out.mono ?_
        rintro e w1 ⟨rfl, rfl⟩
        have HE := Lib.hid (show F = !hg by rw [HF.out]; simp [c1, c2])
        go_wp2
        go_ret
        exact ⟨by rw [HE.out]; rfl, rfl⟩
    · have HE := Lib.hid (show F = false by rw [HF.out]; simp [c2])
      go_enter Try.func28, Try.ntmps28
      go_wp2
      go_ret
      exact ⟨by rw [HE.out]; rfl, rfl⟩
  · have HE := Lib.hid (show F = false by rw [HF.out]; simp [c1])
    go_enter Try.func28, Try.ntmps28
    go_wp2
    go_ret
    exact ⟨by rw [HE.out]; rfl, rfl⟩
set_option maxHeartbeats 4000000 in
theorem refFreeN_any (h : Sv w base R Au Ag s) (hz : Sz s) :
    Calls Try.prog 21 #[.pointer (some ⟨R, 0, none⟩)] w fun e w' => e = .returned (.int .i64 (spFree s)) ∧ Grown w w' := by
  obtain ⟨cu, cg, l1, l2, q0, q1, q2, q3, r1, r2⟩ := h.cells
  obtain ⟨nu, hnu⟩ : ∃ x, x = s.used.length := ⟨_, rfl⟩
  obtain ⟨ng, hng⟩ : ∃ x, x = s.going.length := ⟨_, rfl⟩
  obtain ⟨f, hf⟩ : ∃ x, x = s.first := ⟨_, rfl⟩
  obtain ⟨t, ht⟩ : ∃ x, x = s.last := ⟨_, rfl⟩
  have HE := Lib.hid (show spFree s = t - f - (nu : Int) - (ng : Int) by rw [ht, hf, hnu, hng]; rfl)
  have b1 : nu ≤ 5000 := by rw [hnu]; exact hz.1
  have b2 : ng ≤ 5000 := by rw [hng]; exact hz.2.1
  have b3 : 0 ≤ f := by rw [hf]; exact hz.2.2.1
  have b4 : f ≤ t := by rw [hf, ht]; exact hz.2.2.2.1
  have b5 : t ≤ 65536 := by rw [ht]; exact hz.2.2.2.2
  rw [← hnu] at q2
  rw [← hng] at q3
  rw [← hf] at q0
  rw [← ht] at q1
  rw [HE.out]
  clear hnu hng hf ht l1 l2 r1 r2 hz HE h
  go_enter Try.func21, Try.ntmps21
  go_wp2_with fail
  have GD := Lib.hid (show Grown w w.drew from (Below.refl _ w).drew)
  have S0 := Lib.hid (show w.drew.cell? ⟨R, 0, none⟩ = some (.int .i64 f) ∧ w.drew.cell? ⟨R, 1, none⟩ = some (.int .i64 t) ∧ w.drew.cell? ⟨R, 2, none⟩ = some (.slice Au nu cu) ∧ w.drew.cell? ⟨R, 3, none⟩ = some (.slice Ag ng cg) from ⟨q0, q1, q2, q3⟩)
  refine restS_begin (fun v : World => v.cell? ⟨R, 0, none⟩ = some (.int .i64 f) ∧ v.cell? ⟨R, 1, none⟩ = some (.int .i64 t) ∧ v.cell? ⟨R, 2, none⟩ = some (.slice Au nu cu) ∧ v.cell? ⟨R, 3, none⟩ = some (.slice Ag ng cg)) (by kernel_rfl) ?_
  generalize w.drew = wd at GD S0 ⊢
  clear q0 q1 q2 q3
  refine restS_take (i := 0) S0.out rfl (by kernel_rfl) (by kernel_rfl) (by kernel_rfl) (by rfl) (fun v hv => by obtain ⟨s0, s1, s2, s3⟩ := hv; go_simp; try with_reducible rfl) ?_
  try simp only [Act.put, List.setIfInBounds_toArray, List.set_cons_zero, List.set_cons_succ]
  refine restS_take (i := 1) S0.out rfl (by kernel_rfl) (by kernel_rfl) (by kernel_rfl) (by rfl) (fun v hv => by obtain ⟨s0, s1, s2, s3⟩ := hv; go_simp; try with_reducible rfl) ?_
  try simp only [Act.put, List.setIfInBounds_toArray, List.set_cons_zero, List.set_cons_succ]
  refine restS_take (i := 2) S0.out rfl (by kernel_rfl) (by kernel_rfl) (by kernel_rfl) (by rfl) (fun v hv => by obtain ⟨s0, s1, s2, s3⟩ := hv; go_simp; try with_reducible rfl) ?_
  try simp only [Act.put, List.setIfInBounds_toArray, List.set_cons_zero, List.set_cons_succ]
  refine restS_take (i := 3) S0.out rfl (by kernel_rfl) (by kernel_rfl) (by kernel_rfl) (by rfl) (fun v hv => by obtain ⟨s0, s1, s2, s3⟩ := hv; go_simp; try with_reducible rfl) ?_
  try simp only [Act.put, List.setIfInBounds_toArray, List.set_cons_zero, List.set_cons_succ]
  refine restS_take (i := 4) S0.out rfl (by kernel_rfl) (by kernel_rfl) (by kernel_rfl) (by rfl) (fun v hv => by obtain ⟨s0, s1, s2, s3⟩ := hv; go_simp; try with_reducible rfl) ?_
  try simp only [Act.put, List.setIfInBounds_toArray, List.set_cons_zero, List.set_cons_succ]
  refine restS_take (i := 5) S0.out rfl (by kernel_rfl) (by kernel_rfl) (by kernel_rfl) (by rfl) (fun v hv => by obtain ⟨s0, s1, s2, s3⟩ := hv; go_simp; try with_reducible rfl) ?_
  try simp only [Act.put, List.setIfInBounds_toArray, List.set_cons_zero, List.set_cons_succ]
  refine restS_take (i := 6) S0.out rfl (by kernel_rfl) (by kernel_rfl) (by kernel_rfl) (by rfl) (fun v hv => by obtain ⟨s0, s1, s2, s3⟩ := hv; go_simp; try with_reducible rfl) ?_
  try simp only [Act.put, List.setIfInBounds_toArray, List.set_cons_zero, List.set_cons_succ]
  refine restS_take (i := 7) S0.out rfl (by kernel_rfl) (by kernel_rfl) (by kernel_rfl) (by rfl) (fun v hv => by obtain ⟨s0, s1, s2, s3⟩ := hv; go_simp; try with_reducible rfl) ?_
  try simp only [Act.put, List.setIfInBounds_toArray, List.set_cons_zero, List.set_cons_succ]
  refine restS_take (i := 8) S0.out rfl (by kernel_rfl) (by kernel_rfl) (by kernel_rfl) (by rfl) (fun v hv => by obtain ⟨s0, s1, s2, s3⟩ := hv; go_simp; try with_reducible rfl) ?_
  try simp only [Act.put, List.setIfInBounds_toArray, List.set_cons_zero, List.set_cons_succ]
  refine restS_take (i := 9) S0.out rfl (by kernel_rfl) (by kernel_rfl) (by kernel_rfl) (by rfl) (fun v hv => by obtain ⟨s0, s1, s2, s3⟩ := hv; go_simp; try with_reducible rfl) ?_
  try simp only [Act.put, List.setIfInBounds_toArray, List.set_cons_zero, List.set_cons_succ]
  refine restS_take (i := 10) S0.out rfl (by kernel_rfl) (by kernel_rfl) (by kernel_rfl) (by rfl) (fun v hv => by obtain ⟨s0, s1, s2, s3⟩ := hv; go_simp; try with_reducible rfl) ?_
  try simp only [Act.put, List.setIfInBounds_toArray, List.set_cons_zero, List.set_cons_succ]
  refine restS_take (i := 11) S0.out rfl (by kernel_rfl) (by kernel_rfl) (by kernel_rfl) (by rfl) (fun v hv => by obtain ⟨s0, s1, s2, s3⟩ := hv; go_simp; try with_reducible rfl) ?_
  try simp only [Act.put, List.setIfInBounds_toArray, List.set_cons_zero, List.set_cons_succ]
  refine restS_take (i := 12) S0.out rfl (by kernel_rfl) (by kernel_rfl) (by kernel_rfl) (by rfl) (fun v hv => by obtain ⟨s0, s1, s2, s3⟩ := hv; go_simp; try with_reducible rfl) ?_
  try simp only [Act.put, List.setIfInBounds_toArray, List.set_cons_zero, List.set_cons_succ]
  refine restS_take (i := 13) S0.out rfl (by kernel_rfl) (by kernel_rfl) (by kernel_rfl) (by rfl) (fun v hv => by obtain ⟨s0, s1, s2, s3⟩ := hv; go_simp; try with_reducible rfl) ?_
  try simp only [Act.put, List.setIfInBounds_toArray, List.set_cons_zero, List.set_cons_succ]
  refine restS_take (i := 14) S0.out rfl (by kernel_rfl) (by kernel_rfl) (by kernel_rfl) (by rfl) (fun v hv => by obtain ⟨s0, s1, s2, s3⟩ := hv; go_simp; try with_reducible rfl) ?_
  try simp only [Act.put, List.setIfInBounds_toArray, List.set_cons_zero, List.set_cons_succ]
  refine restS_take (i := 15) S0.out rfl (by kernel_rfl) (by kernel_rfl) (by kernel_rfl) (by rfl) (fun v hv => by obtain ⟨s0, s1, s2, s3⟩ := hv; go_simp; try with_reducible rfl) ?_
  try simp only [Act.put, List.setIfInBounds_toArray, List.set_cons_zero, List.set_cons_succ]
  refine restS_take (i := 16) S0.out rfl (by kernel_rfl) (by kernel_rfl) (by kernel_rfl) (by rfl) (fun v hv => by obtain ⟨s0, s1, s2, s3⟩ := hv; go_simp; try with_reducible rfl) ?_
  try simp only [Act.put, List.setIfInBounds_toArray, List.set_cons_zero, List.set_cons_succ]
  refine restS_take (i := 17) S0.out rfl (by kernel_rfl) (by kernel_rfl) (by kernel_rfl) (by rfl) (fun v hv => by obtain ⟨s0, s1, s2, s3⟩ := hv; go_simp; try with_reducible rfl) ?_
  try simp only [Act.put, List.setIfInBounds_toArray, List.set_cons_zero, List.set_cons_succ]
  refine restS_take (i := 18) S0.out rfl (by kernel_rfl) (by kernel_rfl) (by kernel_rfl) (by rfl) (fun v hv => by obtain ⟨s0, s1, s2, s3⟩ := hv; go_simp; try with_reducible rfl) ?_
  try simp only [Act.put, List.setIfInBounds_toArray, List.set_cons_zero, List.set_cons_succ]
  refine restS_take (i := 19) S0.out rfl (by kernel_rfl) (by kernel_rfl) (by kernel_rfl) (by rfl) (fun v hv => by obtain ⟨s0, s1, s2, s3⟩ := hv; go_simp; try with_reducible rfl) ?_
  try simp only [Act.put, List.setIfInBounds_toArray, List.set_cons_zero, List.set_cons_succ]
  refine restS_take (i := 20) S0.out rfl (by kernel_rfl) (by kernel_rfl) (by kernel_rfl) (by rfl) (fun v hv => by obtain ⟨s0, s1, s2, s3⟩ := hv; go_simp; try with_reducible rfl) ?_
  try simp only [Act.put, List.setIfInBounds_toArray, List.set_cons_zero, List.set_cons_succ]
  refine restS_take (i := 21) S0.out rfl (by kernel_rfl) (by kernel_rfl) (by kernel_rfl) (by rfl) (fun v hv => by obtain ⟨s0, s1, s2, s3⟩ := hv; go_simp; try with_reducible rfl) ?_
  try simp only [Act.put, List.setIfInBounds_toArray, List.set_cons_zero, List.set_cons_succ]
  refine restS_done (by kernel_rfl) ?_
  go_wp2
  go_ret
  refine ⟨?_, GD.out⟩
  rw [wrapI (t - f) (by omega), wrapI (t - f - nu) (by omega), wrapI (t - f - nu - ng) (by omega)]
  rfl
end
end Go.Proofs.Ytdeojgdjjckoeaa.S15
