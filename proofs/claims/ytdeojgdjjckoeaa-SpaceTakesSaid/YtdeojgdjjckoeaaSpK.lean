/-
  The reference's space: Back.
-/
import Derived.Test.YtdeojgdjjckoeaaSpJ
namespace Go.Proofs.Ytdeojgdjjckoeaa.S15
open Cf
open Go.RowKit
set_option linter.unusedVariables false
set_option linter.unusedSimpArgs false
section
variable {w : World} {base R : Nat} {Au Ag : Option Addr} {s : Sp}
theorem OwZ.pre {A : Option Addr} {c : Nat} {l1 l2 : List Int} (h : OwZ w base A c (l1 ++ l2)) : OwZ w base A c l1 := by
  rcases Ow.form h with ⟨rfl, e, rfl⟩ | ⟨g, cur, rfl, hb, hh, hc, hm, hs, ht⟩
  · have : l1 = [] := by simp at e; exact e.1
    subst this
    exact OwZ.nil _ _
  · rw [List.length_map, List.length_append] at hc ht
    refine ⟨by simp, .inr ⟨g, c, cur, by simp, hb, hh, by rw [List.length_map]; omega, hm, by simp [hs], ?_⟩⟩
    rw [Nat.mul_one, List.length_map]
    have h2 : (cur.toList.take (l1.length + l2.length)).take l1.length = ((l1 ++ l2).map zv).take l1.length := congrArg (List.take l1.length) ht
    rw [List.take_take, Nat.min_eq_left (Nat.le_add_right _ _), List.map_append] at h2
    rw [h2, List.take_append_of_le_length (by simp), List.take_of_length_le (by simp)]
set_option maxHeartbeats 8000000 in
theorem refBack_any (h : Sv w base R Au Ag s) (hz : Sz s) (A : Option Addr) (n c : Nat) (l : List Int) (ha : RdZ w w.heap.size A l) (hn : l.length = n) (hnc : n ≤ c) (hn2 : n ≤ 1000) (hu2 : s.going.length ≤ 4000) (hoff : ∀ x, A = some x → l ≠ [] → ¬ SvF R Au Ag x.block) :
    Calls Try.prog 20 #[.pointer (some ⟨R, 0, none⟩), .slice A n c] w fun e w' => e = .returned (.int .i64 (spBack s l).1) ∧ SOd base R w (SvF R Au Ag) (spBack s l).2 w' := by
  have HG := Lib.hid (refGive_any h hz A n c l ha hn hnc hn2 hu2 hoff)
  have HN := Lib.hid hn
  have HZ := Lib.hid hz
  have HU2 := Lib.hid hu2
  clear h hz ha hn hoff hu2
  go_enter Try.func20, Try.ntmps20
  go_wp2_with fail
  refine HG.out.mono ?_
  rintro e w1 ⟨rfl, hs1⟩
  clear HG
  by_cases hb : (l.all (s.used.contains ·) && !twice l) = true
  · have HE := Lib.hid (show spBack s l = (0, { s with used := l.foldl wo s.used }) by unfold spBack; rw [if_pos hb])
    have HE2 : spGive s l = (0, { s with used := l.foldl wo s.used, going := s.going ++ l }) := by unfold spGive; rw [if_pos hb]
    rw [HE2] at hs1 ⊢
    obtain ⟨Ax, Ay, v3, f3, c3⟩ := hs1
    have V3 := Lib.hid v3
    have F3 := Lib.hid f3
    have C3 := Lib.hid c3
    clear v3 f3 c3 hb HE2
    go_wp2_with fail
    have V4 := Lib.hid (V3.out.grow (w' := w1.drew) (Below.refl _ w1).drew)
    have C4 := Lib.hid (Ch.drew C3.out)
    refine restS_begin (fun _ : World => True) (by kernel_rfl) ?_
    generalize w1.drew = wd at V4 C4 ⊢
    clear V3 C3
    obtain ⟨cu3, cg3, hR3, o1, o2⟩ := V4.out.ex
    obtain ⟨k, hk⟩ : ∃ k, k = s.going.length := ⟨_, rfl⟩
    obtain ⟨m, hm⟩ : ∃ m, m = (s.going ++ l).length := ⟨_, rfl⟩
    have hmk : m = k + n := by rw [hm, hk, List.length_append, HN.out]
    have hk4 : k ≤ 4000 := by rw [hk]; exact HU2.out
    have q3 : wd.cell? ⟨R, 3, none⟩ = some (.slice Ay m cg3) := by rw [hm]; exact cell_of_row wd R 3 _ _ (0, 0) hR3
    have y2 : wd.frozen? ⟨R, 3, none⟩ = false := frozen_of_row wd R 3 _ _ hR3
    have hw : IntKind.i64.wrap ((m : Int) - (n : Int)) = (k : Int) := by rw [wrapI _ (by omega)]; omega
    have hmc : m ≤ cg3 := by rw [hm]; exact o2.le
    have hwk : IntKind.i64.wrap (k : Int) = (k : Int) := wrapI _ (by omega)
    have hk0 : (0 : Int) ≤ (k : Int) := by omega
    have hkc : (k : Int) ≤ (cg3 : Int) := by omega
    have hcut : ∀ V : World, (Instr.slice 30 (.slice Ay m cg3) none (some (.int .i64 (k : Int))) none).run Try.prog V = .ok (.slice Ay k cg3) V := fun V => cutZh V Ay m cg3 k (by omega)
    obtain ⟨su1, su2, su3⟩ := V4.out.setGoing (w1 := wd) (A' := Ay) (c' := cg3) (n' := k) (l' := s.going) (fun _ _ _ => rfl) (Ch.refl _ _) o2.pre (fun x hx => .inl hx) hk.symm
    have U := Lib.hid (SOd.step (s1 := { s with used := l.foldl wo s.used, going := s.going ++ l }) (s2 := { s with used := l.foldl wo s.used }) F3.out C4.out ⟨Ax, Ay, su1, su2, su3⟩)
    clear hR3 o1 o2 hk hm su1 su2 su3 F3 V4 C4
    refine restS_take (i := 0) trivial rfl (by kernel_rfl) (by kernel_rfl) (by kernel_rfl) (by rfl) (fun v hv => by go_simp; try with_reducible rfl) ?_
    try simp only [Act.put, List.setIfInBounds_toArray, List.set_cons_zero, List.set_cons_succ]
    refine restS_take (i := 1) trivial rfl (by kernel_rfl) (by kernel_rfl) (by kernel_rfl) (by rfl) (fun v hv => by go_simp; try with_reducible rfl) ?_
    try simp only [Act.put, List.setIfInBounds_toArray, List.set_cons_zero, List.set_cons_succ]
    refine restS_take (i := 2) trivial rfl (by kernel_rfl) (by kernel_rfl) (by kernel_rfl) (by rfl) (fun v hv => by go_simp; try with_reducible rfl) ?_
    try simp only [Act.put, List.setIfInBounds_toArray, List.set_cons_zero, List.set_cons_succ]
    refine restS_take (i := 3) trivial rfl (by kernel_rfl) (by kernel_rfl) (by kernel_rfl) (by rfl) (fun v hv => by go_simp; try with_reducible rfl) ?_
    try simp only [Act.put, List.setIfInBounds_toArray, List.set_cons_zero, List.set_cons_succ]
    refine restS_take (i := 5) trivial rfl (by kernel_rfl) (by kernel_rfl) (by kernel_rfl) (by rfl) (fun v hv => by go_simp; try with_reducible rfl) ?_
    try simp only [Act.put, List.setIfInBounds_toArray, List.set_cons_zero, List.set_cons_succ]
    refine restS_take (i := 6) trivial rfl (by kernel_rfl) (by kernel_rfl) (by kernel_rfl) (by rfl) (fun v hv => by go_simp; try with_reducible rfl) ?_
    try simp only [Act.put, List.setIfInBounds_toArray, List.set_cons_zero, List.set_cons_succ]
    refine restS_take (i := 7) trivial rfl (by kernel_rfl) (by kernel_rfl) (by kernel_rfl) (by rfl) (fun v hv => by go_simp; try with_reducible rfl) ?_
    try simp only [Act.put, List.setIfInBounds_toArray, List.set_cons_zero, List.set_cons_succ]
    refine restS_take (i := 10) trivial rfl (by kernel_rfl) (by kernel_rfl) (by kernel_rfl) (by rfl) (fun v hv => by go_simp; try with_reducible rfl) ?_
    try simp only [Act.put, List.setIfInBounds_toArray, List.set_cons_zero, List.set_cons_succ]
    refine restS_take (i := 11) trivial rfl (by kernel_rfl) (by kernel_rfl) (by kernel_rfl) (by rfl) (fun v hv => by go_simp; try with_reducible rfl) ?_
    try simp only [Act.put, List.setIfInBounds_toArray, List.set_cons_zero, List.set_cons_succ]
    refine restS_two (i := 4) (j := 8) rfl rfl (by kernel_rfl) (by rfl) (by rfl) (fun K hK => ?_) (fun K hK => ?_)
    · go_simp
      refine hK.out _ _ trivial ?_
      clear hK K
      try simp only [Act.put, List.setIfInBounds_toArray, List.set_cons_zero, List.set_cons_succ]
      refine restS_lone (i := 8) rfl (by kernel_rfl) (by rfl) (fun K hK => ?_)
      go_simp
      refine hK.out _ _ trivial ?_
      clear hK K
      try simp only [Act.put, List.setIfInBounds_toArray, List.set_cons_zero, List.set_cons_succ]
      refine restS_take (i := 9) trivial rfl (by kernel_rfl) (by kernel_rfl) (by kernel_rfl) (by rfl) (fun v hv => by go_simp; try with_reducible rfl) ?_
      try simp only [Act.put, List.setIfInBounds_toArray, List.set_cons_zero, List.set_cons_succ]
      refine restS_take (i := 12) trivial rfl (by kernel_rfl) (by kernel_rfl) (by kernel_rfl) (by rfl) (fun v hv => by go_simp; try with_reducible rfl) ?_
      try simp only [Act.put, List.setIfInBounds_toArray, List.set_cons_zero, List.set_cons_succ]
      refine restS_take (i := 13) trivial rfl (by kernel_rfl) (by kernel_rfl) (by kernel_rfl) (by rfl) (fun v hv => by go_simp; try with_reducible rfl) ?_
      try simp only [Act.put, List.setIfInBounds_toArray, List.set_cons_zero, List.set_cons_succ]
      refine restS_take (i := 14) trivial rfl (by kernel_rfl) (by kernel_rfl) (by kernel_rfl) (by rfl) (fun v hv => by go_simp; try with_reducible rfl) ?_
      try simp only [Act.put, List.setIfInBounds_toArray, List.set_cons_zero, List.set_cons_succ]
      refine restS_take (i := 15) trivial rfl (by kernel_rfl) (by kernel_rfl) (by kernel_rfl) (by rfl) (fun v hv => by go_simp; try with_reducible rfl) ?_
      try simp only [Act.put, List.setIfInBounds_toArray, List.set_cons_zero, List.set_cons_succ]
      refine restS_lone (i := 16) rfl (by kernel_rfl) (by rfl) (fun K hK => ?_)
      go_simp
      refine hK.out _ _ trivial ?_
      clear hK K
      try simp only [Act.put, List.setIfInBounds_toArray, List.set_cons_zero, List.set_cons_succ]
      refine restS_done (by kernel_rfl) ?_
      go_wp2
      go_ret
      rw [HE.out]
      exact ⟨rfl, U.out⟩
    · go_simp
      refine hK.out _ _ trivial ?_
      clear hK K
      try simp only [Act.put, List.setIfInBounds_toArray, List.set_cons_zero, List.set_cons_succ]
      refine restS_take (i := 9) trivial rfl (by kernel_rfl) (by kernel_rfl) (by kernel_rfl) (by rfl) (fun v hv => by go_simp; try with_reducible rfl) ?_
      try simp only [Act.put, List.setIfInBounds_toArray, List.set_cons_zero, List.set_cons_succ]
      refine restS_take (i := 12) trivial rfl (by kernel_rfl) (by kernel_rfl) (by kernel_rfl) (by rfl) (fun v hv => by go_simp; try with_reducible rfl) ?_
      try simp only [Act.put, List.setIfInBounds_toArray, List.set_cons_zero, List.set_cons_succ]
      refine restS_lone (i := 4) rfl (by kernel_rfl) (by rfl) (fun K hK => ?_)
      go_simp
      refine hK.out _ _ trivial ?_
      clear hK K
      try simp only [Act.put, List.setIfInBounds_toArray, List.set_cons_zero, List.set_cons_succ]
      refine restS_take (i := 13) trivial rfl (by kernel_rfl) (by kernel_rfl) (by kernel_rfl) (by rfl) (fun v hv => by go_simp; try with_reducible rfl) ?_
      try simp only [Act.put, List.setIfInBounds_toArray, List.set_cons_zero, List.set_cons_succ]
      refine restS_take (i := 14) trivial rfl (by kernel_rfl) (by kernel_rfl) (by kernel_rfl) (by rfl) (fun v hv => by go_simp; try with_reducible rfl) ?_
      try simp only [Act.put, List.setIfInBounds_toArray, List.set_cons_zero, List.set_cons_succ]
      refine restS_take (i := 15) trivial rfl (by kernel_rfl) (by kernel_rfl) (by kernel_rfl) (by rfl) (fun v hv => by go_simp; try with_reducible rfl) ?_
      try simp only [Act.put, List.setIfInBounds_toArray, List.set_cons_zero, List.set_cons_succ]
      refine restS_lone (i := 16) rfl (by kernel_rfl) (by rfl) (fun K hK => ?_)
      go_simp
      refine hK.out _ _ trivial ?_
      clear hK K
      try simp only [Act.put, List.setIfInBounds_toArray, List.set_cons_zero, List.set_cons_succ]
      refine restS_done (by kernel_rfl) ?_
      go_wp2
      go_ret
      rw [HE.out]
      exact ⟨rfl, U.out⟩
  · have HE := Lib.hid (show spBack s l = (2, s) by unfold spBack; rw [if_neg hb])
    have HE2 : spGive s l = (2, s) := by unfold spGive; rw [if_neg hb]
    rw [HE2] at hs1 ⊢
    have HS1 := Lib.hid hs1
    clear hs1 hb HE2
    go_wp2
    go_ret
    rw [HE.out]
    exact ⟨rfl, HS1.out⟩
end
end Go.Proofs.Ytdeojgdjjckoeaa.S15
