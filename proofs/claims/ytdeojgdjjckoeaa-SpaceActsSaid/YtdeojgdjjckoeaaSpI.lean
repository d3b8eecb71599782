/-
  The reference's space: Use.
-/
import Derived.Test.YtdeojgdjjckoeaaSpH
namespace Go.Proofs.Ytdeojgdjjckoeaa.S15
open Cf
open Go.RowKit
set_option linter.unusedVariables false
set_option linter.unusedSimpArgs false
section
variable {w : World} {base R : Nat} {Au Ag : Option Addr} {s : Sp}
theorem fold_len (l : List Int) : ∀ u : List Int, (l.foldl ins u).length = u.length + l.length := by
  induction l with
  | nil => intro u; rfl
  | cons x l ih => intro u; rw [List.foldl_cons, ih, ins_len]; simp; omega
theorem fold_take (l : List Int) (u : List Int) (f : List Int → Int → List Int) (j : Nat) (hj : j < l.length) : (l.take (j + 1)).foldl f u = f ((l.take j).foldl f u) l[j] := by
  rw [List.take_succ_eq_append_getElem hj, List.foldl_append]; rfl
theorem rdZ_ch {F : Nat → Prop} {w w' : World} {A : Option Addr} {l : List Int} (h : RdZ w w.heap.size A l) (hc : Ch F w w') (ho : ∀ x, A = some x → l ≠ [] → ¬ F x.block) : RdZ w' w'.heap.size A l := by
  rcases h with e | ⟨b, off, e, hb, hcl⟩
  · exact .inl e
  · by_cases hl : l = []
    · exact .inl hl
    · exact .inr ⟨b, off, e, Nat.lt_of_lt_of_le hb hc.size, fun j hj => (hc.cell (p := ⟨b, off + j, none⟩) hb (ho ⟨b, off, none⟩ e hl)).trans (hcl j hj)⟩
theorem SOd.step {F : Nat → Prop} {s1 s2 : Sp} {w1 w2 : World} {Av Ah : Option Addr} (b1 : ∀ k, SvF R Av Ah k → F k ∨ w.heap.size ≤ k) (c1 : Ch F w w1) (h2 : SOd base R w1 (SvF R Av Ah) s2 w2) : SOd base R w F s2 w2 := by
  obtain ⟨Au2, Ag2, a2, b2, c2⟩ := h2
  refine ⟨Au2, Ag2, a2, fun k hk => ?_, Ch.then c1 c2 fun k hk hf => ?_⟩
  · rcases b2 k hk with h3 | h3
    · exact b1 k h3
    · exact .inr (Nat.le_trans c1.size h3)
  · rcases b1 k hf with h3 | h3
    · exact h3
    · omega
/-- Beside the used ones the same. -/
theorem sz_used {s : Sp} (h : Sz s) (u : List Int) (hu : u.length ≤ 5000) : Sz { s with used := u } := ⟨hu, h.2⟩
set_option maxHeartbeats 8000000 in
theorem refUse_any (h : Sv w base R Au Ag s) (hz : Sz s) (A : Option Addr) (n c : Nat) (l : List Int) (ha : RdZ w w.heap.size A l) (hn : l.length = n) (hnc : n ≤ c) (hn2 : n ≤ 1000) (hu2 : s.used.length ≤ 4000) (hoff : ∀ x, A = some x → l ≠ [] → ¬ SvF R Au Ag x.block) :
    Calls Try.prog 13 #[.pointer (some ⟨R, 0, none⟩), .slice A n c] w fun e w' => e = .returned (.int .i64 (spUse s l).1) ∧ SOd base R w (SvF R Au Ag) (spUse s l).2 w' := by
  have H := Lib.hid h
  have HZ := Lib.hid hz
  have HA := Lib.hid ha
  have HN := Lib.hid hn
  have HO := Lib.hid hoff
  have HU2 := Lib.hid hu2
  clear h hz ha hn hoff hu2
  go_enter Try.func13, Try.ntmps13
  go_wp2
  go_loopw [5] (fun v5 wr => ∃ i : Nat, v5 = .int .i64 (i : Int) ∧ i ≤ n ∧ Hid (∀ j (h : j < l.length), j < i → isFree s l[j] = true) ∧ Hid (0 < i → twice l = false) ∧ Hid (Grown w wr)) (fun v5 _ => n - (intOf v5).toNat)
  case atStart => exact ⟨0, rfl, Nat.zero_le _, (fun j h hj => by omega), (fun h => by omega), Grown.refl _⟩
  case round =>
    obtain ⟨i, rfl, hi, HI, HW, HG⟩ := hrel
    by_cases hlt : i < n
    · have bi : (i : Int) < (n : Int) := by omega
      have hil : i < l.length := by rw [HN.out]; exact hlt
      obtain ⟨b, off, hA, hb, hc⟩ := HA.out.at_ hil
      obtain ⟨x, hx⟩ : ∃ x, x = l[i] := ⟨_, rfl⟩
      have hcr : wr.cell? ⟨b, off + i, none⟩ = some (.int .i64 x) := by rw [HG.out.cell (p := ⟨b, off + i, none⟩) hb, hc, hx]
      have HX := Lib.hid hx
      have HRd := Lib.hid (HA.out.grow HG.out)
      subst hA
      clear hx hc
      go_wp2_with fail
      refine (refFree_any (H.out.grow HG.out) HZ.out x).mono ?_
      rintro e w1 ⟨rfl, rfl⟩
      obtain ⟨fr, hfr⟩ : ∃ fr, fr = isFree s x := ⟨_, rfl⟩
      rw [← hfr]
      have HFR := Lib.hid hfr
      clear hfr
      cases fr with
      | false =>
        have HE := Lib.hid (show spUse s l = (2, s) by
          unfold spUse
          rw [if_neg]
          intro hh
          rw [Bool.and_eq_true, List.all_eq_true] at hh
          have := hh.1 l[i] (List.getElem_mem hil)
          rw [← HX.out, ← HFR.out] at this
          cases this)
        clear hil HX hcr
        go_wp2
        go_ret
        rw [HE.out]
        exact ⟨rfl, SOd.grown H.out HG.out⟩
      | true =>
        go_wp2_with fail
        refine (refTwice_any HRd.out HN.out hnc (by omega)).mono ?_
        rintro e w2 ⟨rfl, hg2⟩
        have G2 := Lib.hid (Grown.trans HG.out hg2)
        obtain ⟨t, ht⟩ : ∃ t, t = twice l := ⟨_, rfl⟩
        rw [← ht]
        have HTW := Lib.hid ht
        clear ht hg2
        cases t with
        | true =>
          have HE := Lib.hid (show spUse s l = (2, s) by
            unfold spUse
            rw [if_neg]
            intro hh
            rw [← HTW.out] at hh
            simp at hh)
          clear hil HX hcr
          go_wp2
          go_ret
          rw [HE.out]
          exact ⟨rfl, SOd.grown H.out G2.out⟩
        | false =>
          have HIn := Lib.hid (show ∀ j (h : j < l.length), j < i + 1 → isFree s l[j] = true from fun j hj hji => by
            by_cases e : j = i
            · subst e; rw [← HX.out]; exact HFR.out.symm
            · exact HI.out j hj (by omega))
          clear hil HX hcr
          go_wp2
          exact ⟨⟨i + 1, by simp, by omega, HIn.out, (fun _ => HTW.out.symm), G2.out⟩, by simp [intOf]; omega⟩
    · have bi : ¬ ((i : Int) < (n : Int)) := by omega
      have HE := Lib.hid (show spUse s l = (0, { s with used := l.foldl ins s.used }) by
        unfold spUse
        rw [if_pos]
        rw [Bool.and_eq_true, List.all_eq_true]
        refine ⟨fun x hx => ?_, ?_⟩
        · obtain ⟨j, hj, e⟩ := List.getElem_of_mem hx
          rw [← e]
          exact HI.out j hj (by rw [HN.out] at hj; omega)
        · by_cases h0 : i = 0
          · have : l = [] := List.eq_nil_of_length_eq_zero (by rw [HN.out]; omega)
            rw [this]; rfl
          · rw [HW.out (by omega)]; rfl)
      clear HI HW
      go_wp2_with fail
      go_loopw [6] (fun v6 wq => ∃ j : Nat, v6 = .int .i64 (j : Int) ∧ j ≤ n ∧ Hid (SOd base R w (SvF R Au Ag) { s with used := (l.take j).foldl ins s.used } wq)) (fun v6 _ => n - (intOf v6).toNat)
      case atStart => exact ⟨0, rfl, Nat.zero_le _, SOd.grown H.out HG.out⟩
      case round =>
        obtain ⟨j, rfl, hj, HS⟩ := hrel
        by_cases hjn : j < n
        · have bj : (j : Int) < (n : Int) := by omega
          have hjl : j < l.length := by rw [HN.out]; exact hjn
          obtain ⟨Av, Ah, hv, hfo, hch⟩ := HS.out
          have hcr := rdZ_ch HA.out hch HO.out
          obtain ⟨b, off, hA, hb, hc⟩ := hcr.at_ hjl
          obtain ⟨x, hx⟩ : ∃ x, x = l[j] := ⟨_, rfl⟩
          rw [← hx] at hc
          have HV := Lib.hid hv
          have HFo := Lib.hid hfo
          have HCh := Lib.hid hch
          have HFd := Lib.hid (show (l.take (j + 1)).foldl ins s.used = ins ((l.take j).foldl ins s.used) x by rw [fold_take l s.used ins j hjl, hx])
          obtain ⟨u, hu⟩ : ∃ u, u = (l.take j).foldl ins s.used := ⟨_, rfl⟩
          have HUl := Lib.hid (show u.length ≤ 5000 by rw [hu, fold_len, List.length_take]; have := HU2.out; omega)
          rw [← hu] at HV HFd
          subst hA
          have hbR : b ≠ R := fun e => HO.out _ rfl (fun e2 => by rw [e2] at hjl; exact absurd hjl (by simp)) (.inl e)
          clear hv hfo hch hcr hjl hx hu
          obtain ⟨cu, cg, l1, l2, q0, q1, q2, q3, r1, r2⟩ := HV.out.cells
          obtain ⟨nu, hnu⟩ : ∃ x, x = u.length := ⟨_, rfl⟩
          have q2' : wr.cell? ⟨R, 2, none⟩ = some (.slice Av nu cu) := by rw [hnu]; exact q2
          have l1' : nu ≤ cu := by rw [hnu]; exact l1
          have GD := Lib.hid (show Grown wr wr.drew from (Below.refl _ wr).drew)
          have S0 := Lib.hid (show wr.drew.cell? ⟨b, off + j, none⟩ = some (.int .i64 x) from hc)
          have q2d : wr.drew.cell? ⟨R, 2, none⟩ = some (.slice Av nu cu) := q2'
          have HNU := Lib.hid hnu
          clear q0 q1 q2 q3 q2' l1 l2 r1 r2 hnu
          go_wp2_with fail
          refine restS_begin (fun v : World => v.cell? ⟨b, off + j, none⟩ = some (.int .i64 x)) (by kernel_rfl) ?_
          generalize wr.drew = wd at GD S0 q2d ⊢
          refine restS_take (i := 0) S0.out rfl (by kernel_rfl) (by kernel_rfl) (by kernel_rfl) (by rfl) (fun v hv => by go_simp; try with_reducible rfl) ?_
          try simp only [Act.put, List.setIfInBounds_toArray, List.set_cons_zero, List.set_cons_succ]
          refine restS_take (i := 1) S0.out rfl (by kernel_rfl) (by kernel_rfl) (by kernel_rfl) (by rfl) (fun v hv => by go_simp; try with_reducible rfl) ?_
          try simp only [Act.put, List.setIfInBounds_toArray, List.set_cons_zero, List.set_cons_succ]
          refine restS_take (i := 2) S0.out rfl (by kernel_rfl) (by kernel_rfl) (by kernel_rfl) (by rfl) (fun v hv => by go_simp; try with_reducible rfl) ?_
          try simp only [Act.put, List.setIfInBounds_toArray, List.set_cons_zero, List.set_cons_succ]
          refine restS_take (i := 3) S0.out rfl (by kernel_rfl) (by kernel_rfl) (by kernel_rfl) (by rfl) (fun v hv => by go_simp; try with_reducible rfl) ?_
          try simp only [Act.put, List.setIfInBounds_toArray, List.set_cons_zero, List.set_cons_succ]
          refine restS_take (i := 5) S0.out rfl (by kernel_rfl) (by kernel_rfl) (by kernel_rfl) (by rfl) (fun v hv => by go_simp; try with_reducible rfl) ?_
          try simp only [Act.put, List.setIfInBounds_toArray, List.set_cons_zero, List.set_cons_succ]
          refine restS_take (i := 6) S0.out rfl (by kernel_rfl) (by kernel_rfl) (by kernel_rfl) (by rfl) (fun v hv => by go_simp; try with_reducible rfl) ?_
          try simp only [Act.put, List.setIfInBounds_toArray, List.set_cons_zero, List.set_cons_succ]
          refine restS_take (i := 7) S0.out rfl (by kernel_rfl) (by kernel_rfl) (by kernel_rfl) (by rfl) (fun v hv => by go_simp; try with_reducible rfl) ?_
          try simp only [Act.put, List.setIfInBounds_toArray, List.set_cons_zero, List.set_cons_succ]
          refine restS_take (i := 8) S0.out rfl (by kernel_rfl) (by kernel_rfl) (by kernel_rfl) (by rfl) (fun v hv => by go_simp; try with_reducible rfl) ?_
          try simp only [Act.put, List.setIfInBounds_toArray, List.set_cons_zero, List.set_cons_succ]
          refine restS_lone (i := 4) rfl (by kernel_rfl) (by rfl) (fun K hK => ?_)
          go_simp
          refine hK.out _ _ S0.out ?_
          clear hK K
          try simp only [Act.put, List.setIfInBounds_toArray, List.set_cons_zero, List.set_cons_succ]
          refine restS_lone (i := 9) rfl (by kernel_rfl) (by rfl) (fun K hK => ?_)
          go_simp
          refine (refPut_any (A := Av) (l := u) (by obtain ⟨_, _, _, _, _, _, _, _, r1, _⟩ := (HV.out.grow GD.out).cells; exact r1) HNU.out.symm l1' (by have := HUl.out; have := HNU.out; omega) x).mono ?_
          rintro e w2 ⟨A9, c9, rfl, ho9, hg9⟩
          have S2 := Lib.hid (show w2.cell? ⟨b, off + j, none⟩ = some (.int .i64 x) by rw [hg9.cell (p := ⟨b, off + j, none⟩) (Nat.lt_of_lt_of_le hb GD.out.size), S0.out])
          refine hK.out _ _ S2.out ?_
          clear hK K
          try simp only [Act.put, List.setIfInBounds_toArray, List.set_cons_zero, List.set_cons_succ]
          obtain ⟨n9, hn9⟩ : ∃ n9, n9 = (ins u x).length := ⟨_, rfl⟩
          rw [← hn9]
          obtain ⟨su1, su2, su3⟩ := HV.out.setUsed (GD.out.trans hg9) (ho9.less GD.out.size) hn9.symm
          have U := Lib.hid (SOd.step (s1 := { s with used := u }) HFo.out HCh.out ⟨A9, Ah, su1, su2, su3⟩)
          have R2 := Lib.hid (HV.out.grow (GD.out.trans hg9))
          have hf9 : w2.frozen? ⟨R, 2, none⟩ = false := by obtain ⟨_, _, hR, _⟩ := R2.out.ex; exact frozen_of_row w2 R 2 _ _ hR
          have hc9 : ∃ u, w2.cell? ⟨R, 2, none⟩ = some u := by obtain ⟨_, _, hR, _⟩ := R2.out.ex; exact ⟨_, cell_of_row w2 R 2 _ _ (0, 0) hR⟩
          obtain ⟨u9, hc9⟩ := hc9
          clear su1 su2 su3 ho9 hg9 hn9
          refine restS_take (i := 10) S2.out rfl (by kernel_rfl) (by kernel_rfl) (by kernel_rfl) (by rfl) (fun v hv => by go_simp; try with_reducible rfl) ?_
          try simp only [Act.put, List.setIfInBounds_toArray, List.set_cons_zero, List.set_cons_succ]
          refine restS_take (i := 11) S2.out rfl (by kernel_rfl) (by kernel_rfl) (by kernel_rfl) (by rfl) (fun v hv => by go_simp; try with_reducible rfl) ?_
          try simp only [Act.put, List.setIfInBounds_toArray, List.set_cons_zero, List.set_cons_succ]
          refine restS_lone (i := 12) rfl (by kernel_rfl) (by rfl) (fun K hK => ?_)
          go_simp
          refine hK.out _ _ ((World.cell?_of_block (a := ⟨b, off + j, none⟩) (heap_setCell_other w2 ⟨R, 2, none⟩ b _ hbR)).trans S2.out) ?_
          clear hK K
          try simp only [Act.put, List.setIfInBounds_toArray, List.set_cons_zero, List.set_cons_succ]
          refine restS_done (by kernel_rfl) ?_
          go_wp2
          exact ⟨⟨j + 1, by simp, by omega, by rw [HFd.out]; exact U.out⟩, by simp [intOf]; omega⟩
        · have bj : ¬ ((j : Int) < (n : Int)) := by omega
          have HS2 := Lib.hid (show SOd base R w (SvF R Au Ag) { s with used := l.foldl ins s.used } wr by
            have := HS.out
            rw [List.take_of_length_le (by rw [HN.out]; omega)] at this
            exact this)
          clear HS
          go_wp2
          go_ret
          rw [HE.out]
          exact ⟨rfl, HS2.out⟩
end
end Go.Proofs.Ytdeojgdjjckoeaa.S15
