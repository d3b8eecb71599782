/-
  The reference's space: Undo.
-/
import Derived.Test.YtdeojgdjjckoeaaSpK
namespace Go.Proofs.Ytdeojgdjjckoeaa.S15
open Cf
open Go.RowKit
set_option linter.unusedVariables false
set_option linter.unusedSimpArgs false
section
variable {w : World} {base R : Nat} {Au Ag : Option Addr} {s : Sp}
set_option maxHeartbeats 8000000 in
theorem refUndo_any (h : Sv w base R Au Ag s) (hz : Sz s) (A : Option Addr) (n c : Nat) (l : List Int) (ha : RdZ w w.heap.size A l) (hn : l.length = n) (hnc : n ≤ c) (hn2 : n ≤ 1000) (hu2 : s.used.length + s.going.length ≤ 4000) (hoff : ∀ x, A = some x → l ≠ [] → ¬ SvF R Au Ag x.block) :
    Calls Try.prog 18 #[.pointer (some ⟨R, 0, none⟩), .slice A n c] w fun e w' => e = .returned (.tuple #[]) ∧ SOd base R w (SvF R Au Ag) (spUndo s l) w' := by
  have H := Lib.hid h
  have HZ := Lib.hid hz
  have HA := Lib.hid ha
  have HN := Lib.hid hn
  have HO := Lib.hid hoff
  have HU2 := Lib.hid hu2
  obtain ⟨ng, hng⟩ : ∃ x, x = s.going.length := ⟨_, rfl⟩
  have HNG := Lib.hid hng
  have hng4 : ng ≤ 4000 := by omega
  clear h hz ha hn hoff hu2 hng
  go_enter Try.func18, Try.ntmps18
  go_wp2
  go_loopw [4] (fun v2 wq => ∃ j : Nat, v2 = .int .i64 (j : Int) ∧ j ≤ n ∧ Hid (SOd base R w (SvF R Au Ag) { s with used := (l.take j).foldl wo s.used } wq)) (fun v2 _ => n - (intOf v2).toNat)
  case atStart => exact ⟨0, rfl, Nat.zero_le _, SOd.refl H.out⟩
  case round =>
    obtain ⟨j, rfl, hj, HS⟩ := hrel
    by_cases hjn : j < n
    · have bj : (j : Int) < (n : Int) := by omega
      have hjl : j < l.length := by rw [HN.out]; exact hjn
      obtain ⟨Av, Ah, hv, hfo, hch⟩ := HS.out
      have hcr := rdZ_ch HA.out hch HO.out
      obtain ⟨b, off, hA, hb, hc⟩ := hcr.at_ hjl
      obtain ⟨x, hx⟩ : ∃ x, x = l[j] := ⟨_, rfl⟩
      rw [← hx] at hc
      have HV := Lib.hid hv
      have HFo := Lib.hid hfo
      have HCh := Lib.hid hch
      have HFd := Lib.hid (show (l.take (j + 1)).foldl wo s.used = wo ((l.take j).foldl wo s.used) x by rw [fold_take l s.used wo j hjl, hx])
      obtain ⟨u, hu⟩ : ∃ u, u = (l.take j).foldl wo s.used := ⟨_, rfl⟩
      have HUl := Lib.hid (show u.length ≤ 5000 by rw [hu]; have := wo_fold_len (l.take j) s.used; have := HZ.out.1; omega)
      rw [← hu] at HV HFd
      subst hA
      have hbF : ¬ SvF R Au Ag b := HO.out _ rfl (fun e2 => by rw [e2] at hjl; exact absurd hjl (by simp))
      have hbR : b ≠ R := fun e => hbF (.inl e)
      have hbw : b < w.heap.size := by
        obtain ⟨b', off', e, hb', _⟩ := HA.out.at_ hjl
        simp only [Option.some.injEq, Addr.mk.injEq] at e
        rw [e.1]; exact hb'
      clear hv hfo hch hcr hjl hx hu
      obtain ⟨cu, cg, l1, l2, q0, q1, q2, q3, r1, r2⟩ := HV.out.cells
      obtain ⟨nu, hnu⟩ : ∃ x, x = u.length := ⟨_, rfl⟩
      have q2' : wr.cell? ⟨R, 2, none⟩ = some (.slice Av nu cu) := by rw [hnu]; exact q2
      have l1' : nu ≤ cu := by rw [hnu]; exact l1
      have GD := Lib.hid (show Grown wr wr.drew from (Below.refl _ wr).drew)
      have S0 := Lib.hid (show wr.drew.cell? ⟨b, off + j, none⟩ = some (.int .i64 x) from hc)
      have q2d : wr.drew.cell? ⟨R, 2, none⟩ = some (.slice Av nu cu) := q2'
      have HNU := Lib.hid hnu
      clear q0 q1 q2 q3 q2' l1 l2 r1 r2 hnu
      go_wp2_with fail
      refine restS_begin (fun v : World => v.cell? ⟨b, off + j, none⟩ = some (.int .i64 x)) (by kernel_rfl) ?_
      generalize wr.drew = wd at GD S0 q2d ⊢
      refine restS_take (i := 0) S0.out rfl (by kernel_rfl) (by kernel_rfl) (by kernel_rfl) (by rfl) (fun v hv => by go_simp; try with_reducible rfl) ?_
      try simp only [Act.put, List.setIfInBounds_toArray, List.set_cons_zero, List.set_cons_succ]
      refine restS_take (i := 1) S0.out rfl (by kernel_rfl) (by kernel_rfl) (by kernel_rfl) (by rfl) (fun v hv => by go_simp; try with_reducible rfl) ?_
      try simp only [Act.put, List.setIfInBounds_toArray, List.set_cons_zero, List.set_cons_succ]
      refine restS_take (i := 2) S0.out rfl (by kernel_rfl) (by kernel_rfl) (by kernel_rfl) (by rfl) (fun v hv => by go_simp; try with_reducible rfl) ?_
      try simp only [Act.put, List.setIfInBounds_toArray, List.set_cons_zero, List.set_cons_succ]
      refine restS_take (i := 3) S0.out rfl (by kernel_rfl) (by kernel_rfl) (by kernel_rfl) (by rfl) (fun v hv => by go_simp; try with_reducible rfl) ?_
      try simp only [Act.put, List.setIfInBounds_toArray, List.set_cons_zero, List.set_cons_succ]
      refine restS_take (i := 5) S0.out rfl (by kernel_rfl) (by kernel_rfl) (by kernel_rfl) (by rfl) (fun v hv => by go_simp; try with_reducible rfl) ?_
      try simp only [Act.put, List.setIfInBounds_toArray, List.set_cons_zero, List.set_cons_succ]
      refine restS_take (i := 6) S0.out rfl (by kernel_rfl) (by kernel_rfl) (by kernel_rfl) (by rfl) (fun v hv => by go_simp; try with_reducible rfl) ?_
      try simp only [Act.put, List.setIfInBounds_toArray, List.set_cons_zero, List.set_cons_succ]
      refine restS_take (i := 7) S0.out rfl (by kernel_rfl) (by kernel_rfl) (by kernel_rfl) (by rfl) (fun v hv => by go_simp; try with_reducible rfl) ?_
      try simp only [Act.put, List.setIfInBounds_toArray, List.set_cons_zero, List.set_cons_succ]
      refine restS_take (i := 8) S0.out rfl (by kernel_rfl) (by kernel_rfl) (by kernel_rfl) (by rfl) (fun v hv => by go_simp; try with_reducible rfl) ?_
      try simp only [Act.put, List.setIfInBounds_toArray, List.set_cons_zero, List.set_cons_succ]
      refine restS_lone (i := 4) rfl (by kernel_rfl) (by rfl) (fun K hK => ?_)
      go_simp
      refine hK.out _ _ S0.out ?_
      clear hK K
      try simp only [Act.put, List.setIfInBounds_toArray, List.set_cons_zero, List.set_cons_succ]
      refine restS_lone (i := 9) rfl (by kernel_rfl) (by rfl) (fun K hK => ?_)
      go_simp
      refine (refWithout_any (A := Av) (l := u) (by obtain ⟨_, _, _, _, _, _, _, _, r1, _⟩ := (HV.out.grow GD.out).cells; exact r1) HNU.out.symm (by have := HUl.out; have := HNU.out; omega) x).mono ?_
      rintro e w2 ⟨A9, c9, rfl, ho9, hg9⟩
      have S2 := Lib.hid (show w2.cell? ⟨b, off + j, none⟩ = some (.int .i64 x) by rw [hg9.cell (p := ⟨b, off + j, none⟩) (Nat.lt_of_lt_of_le hb GD.out.size), S0.out])
      refine hK.out _ _ S2.out ?_
      clear hK K
      try simp only [Act.put, List.setIfInBounds_toArray, List.set_cons_zero, List.set_cons_succ]
      obtain ⟨n9, hn9⟩ : ∃ n9, n9 = (wo u x).length := ⟨_, rfl⟩
      rw [← hn9]
      obtain ⟨su1, su2, su3⟩ := HV.out.setUsed (GD.out.trans hg9) (ho9.less GD.out.size) hn9.symm
      have U := Lib.hid (SOd.step (s1 := { s with used := u }) HFo.out HCh.out ⟨A9, Ah, su1, su2, su3⟩)
      have R2 := Lib.hid (HV.out.grow (GD.out.trans hg9))
      have hf9 : w2.frozen? ⟨R, 2, none⟩ = false := by obtain ⟨_, _, hR, _⟩ := R2.out.ex; exact frozen_of_row w2 R 2 _ _ hR
      have hc9 : ∃ u, w2.cell? ⟨R, 2, none⟩ = some u := by obtain ⟨_, _, hR, _⟩ := R2.out.ex; exact ⟨_, cell_of_row w2 R 2 _ _ (0, 0) hR⟩
      obtain ⟨u9, hc9⟩ := hc9
      clear su1 su2 su3 ho9 hg9 hn9
      refine restS_take (i := 10) S2.out rfl (by kernel_rfl) (by kernel_rfl) (by kernel_rfl) (by rfl) (fun v hv => by go_simp; try with_reducible rfl) ?_
      try simp only [Act.put, List.setIfInBounds_toArray, List.set_cons_zero, List.set_cons_succ]
      refine restS_take (i := 11) S2.out rfl (by kernel_rfl) (by kernel_rfl) (by kernel_rfl) (by rfl) (fun v hv => by go_simp; try with_reducible rfl) ?_
      try simp only [Act.put, List.setIfInBounds_toArray, List.set_cons_zero, List.set_cons_succ]
      refine restS_lone (i := 12) rfl (by kernel_rfl) (by rfl) (fun K hK => ?_)
      go_simp
      refine hK.out _ _ ((World.cell?_of_block (a := ⟨b, off + j, none⟩) (heap_setCell_other w2 ⟨R, 2, none⟩ b _ hbR)).trans S2.out) ?_
      clear hK K
      try simp only [Act.put, List.setIfInBounds_toArray, List.set_cons_zero, List.set_cons_succ]
      refine restS_done (by kernel_rfl) ?_
      go_wp2
      exact ⟨⟨j + 1, by simp, by omega, by rw [HFd.out]; exact U.out⟩, by simp [intOf]; omega⟩
    · have bj : ¬ ((j : Int) < (n : Int)) := by omega
      have HS2 := Lib.hid (show SOd base R w (SvF R Au Ag) { s with used := l.foldl wo s.used } wr by
        have := HS.out
        rw [List.take_of_length_le (by rw [HN.out]; omega)] at this
        exact this)
      clear HS
      go_wp2_with fail
      go_loopw [5] (fun v3 wq => ∃ j : Nat, v3 = .int .i64 (j : Int) ∧ j ≤ ng ∧ Hid (SOd base R w (SvF R Au Ag) { s with used := (s.going.take j).foldl ins (l.foldl wo s.used) } wq)) (fun v3 _ => ng - (intOf v3).toNat)
      case atStart => exact ⟨0, rfl, Nat.zero_le _, HS2.out⟩
      case round =>
        obtain ⟨i, rfl, hi, HT⟩ := hrel
        obtain ⟨Av, Ah, hv, hfo, hch⟩ := HT.out
        have HV := Lib.hid hv
        have HFo := Lib.hid hfo
        have HCh := Lib.hid hch
        obtain ⟨u, hu⟩ : ∃ u, u = (s.going.take i).foldl ins (l.foldl wo s.used) := ⟨_, rfl⟩
        have HU := Lib.hid hu
        rw [← hu] at HV
        obtain ⟨cu, cg, l1, l2, q0, q1, q2, q3, r1, r2⟩ := HV.out.cells
        have q3' : wr.cell? ⟨R, 3, none⟩ = some (.slice Ah ng cg) := by rw [HNG.out]; exact q3
        have y2 : wr.frozen? ⟨R, 3, none⟩ = false := by obtain ⟨_, _, hR, _⟩ := HV.out.ex; exact frozen_of_row wr R 3 _ _ hR
        clear hv hfo hch hu l1 l2 q0 q1 q2 q3 r1 r2
        by_cases hin : i < ng
        · have bi : (i : Int) < (ng : Int) := by omega
          have hil : i < s.going.length := by have := HNG.out; omega
          clear y2
          obtain ⟨x, hx⟩ : ∃ x, x = s.going[i] := ⟨_, rfl⟩
          have HFd := Lib.hid (show (s.going.take (i + 1)).foldl ins (l.foldl wo s.used) = ins u x by rw [fold_take s.going (l.foldl wo s.used) ins i hil, hx, HU.out])
          have HUl := Lib.hid (show u.length ≤ 5000 by
            rw [HU.out, fold_len, List.length_take]
            have := wo_fold_len l s.used
            have := HU2.out
            have := HNG.out
            omega)
          have GD := Lib.hid (show Grown wr wr.drew from (Below.refl _ wr).drew)
          have VD := Lib.hid (HV.out.grow GD.out)
          go_wp2_with fail
          clear q3'
          obtain ⟨cu, cg, hR, o1, o2⟩ := VD.out.ex
          obtain ⟨nu, hnu⟩ : ∃ x, x = u.length := ⟨_, rfl⟩
          have HNU := Lib.hid hnu
          obtain ⟨b, off, hA, hb, hc⟩ := o2.rd.at_ hil
          rw [← hx] at hc
          have l1 : nu ≤ cu := by rw [hnu]; exact o1.le
          have R1 := Lib.hid o1.rd
          have HR := Lib.hid (show wr.drew.heap[R]? = some (.cells #[.int .i64 s.first, .int .i64 s.last, .slice Av nu cu, .slice Ah ng cg] 32 (0, 0)) by rw [hnu, HNG.out]; exact hR)
          have q2 : wr.drew.cell? ⟨R, 2, none⟩ = some (.slice Av nu cu) := cell_of_row _ R 2 _ _ (0, 0) HR.out
          have hbR : b ≠ R := VD.out.ng _ hA
          have hRl : R < wr.drew.heap.size := (VD.out.lt R (.inl rfl)).2
          have S0 := Lib.hid (show wr.drew.cell? ⟨R, 3, none⟩ = some (.slice Ah ng cg) ∧ wr.drew.cell? ⟨b, off + i, none⟩ = some (.int .i64 x) from ⟨cell_of_row _ R 3 _ _ (0, 0) HR.out, hc⟩)
          subst hA
          clear hR o1 o2 hnu hc hx hil
          refine restS_begin (fun v : World => v.cell? ⟨R, 3, none⟩ = some (.slice (some ⟨b, off, none⟩) ng cg) ∧ v.cell? ⟨b, off + i, none⟩ = some (.int .i64 x)) (by kernel_rfl) ?_
          generalize wr.drew = wd at GD VD R1 HR q2 hRl hb S0 ⊢
          refine restS_take (i := 0) S0.out rfl (by kernel_rfl) (by kernel_rfl) (by kernel_rfl) (by rfl) (fun v hv => by obtain ⟨s0, s1⟩ := hv; go_simp; try with_reducible rfl) ?_
          try simp only [Act.put, List.setIfInBounds_toArray, List.set_cons_zero, List.set_cons_succ]
          refine restS_take (i := 1) S0.out rfl (by kernel_rfl) (by kernel_rfl) (by kernel_rfl) (by rfl) (fun v hv => by obtain ⟨s0, s1⟩ := hv; go_simp; try with_reducible rfl) ?_
          try simp only [Act.put, List.setIfInBounds_toArray, List.set_cons_zero, List.set_cons_succ]
          refine restS_take (i := 2) S0.out rfl (by kernel_rfl) (by kernel_rfl) (by kernel_rfl) (by rfl) (fun v hv => by obtain ⟨s0, s1⟩ := hv; go_simp; try with_reducible rfl) ?_
          try simp only [Act.put, List.setIfInBounds_toArray, List.set_cons_zero, List.set_cons_succ]
          refine restS_take (i := 3) S0.out rfl (by kernel_rfl) (by kernel_rfl) (by kernel_rfl) (by rfl) (fun v hv => by obtain ⟨s0, s1⟩ := hv; go_simp; try with_reducible rfl) ?_
          try simp only [Act.put, List.setIfInBounds_toArray, List.set_cons_zero, List.set_cons_succ]
          refine restS_take (i := 5) S0.out rfl (by kernel_rfl) (by kernel_rfl) (by kernel_rfl) (by rfl) (fun v hv => by obtain ⟨s0, s1⟩ := hv; go_simp; try with_reducible rfl) ?_
          try simp only [Act.put, List.setIfInBounds_toArray, List.set_cons_zero, List.set_cons_succ]
          refine restS_take (i := 6) S0.out rfl (by kernel_rfl) (by kernel_rfl) (by kernel_rfl) (by rfl) (fun v hv => by obtain ⟨s0, s1⟩ := hv; go_simp; try with_reducible rfl) ?_
          try simp only [Act.put, List.setIfInBounds_toArray, List.set_cons_zero, List.set_cons_succ]
          refine restS_take (i := 7) S0.out rfl (by kernel_rfl) (by kernel_rfl) (by kernel_rfl) (by rfl) (fun v hv => by obtain ⟨s0, s1⟩ := hv; go_simp; try with_reducible rfl) ?_
          try simp only [Act.put, List.setIfInBounds_toArray, List.set_cons_zero, List.set_cons_succ]
          refine restS_take (i := 8) S0.out rfl (by kernel_rfl) (by kernel_rfl) (by kernel_rfl) (by rfl) (fun v hv => by obtain ⟨s0, s1⟩ := hv; go_simp; try with_reducible rfl) ?_
          try simp only [Act.put, List.setIfInBounds_toArray, List.set_cons_zero, List.set_cons_succ]
          refine restS_take (i := 9) S0.out rfl (by kernel_rfl) (by kernel_rfl) (by kernel_rfl) (by rfl) (fun v hv => by obtain ⟨s0, s1⟩ := hv; go_simp; try with_reducible rfl) ?_
          try simp only [Act.put, List.setIfInBounds_toArray, List.set_cons_zero, List.set_cons_succ]
          refine restS_take (i := 10) S0.out rfl (by kernel_rfl) (by kernel_rfl) (by kernel_rfl) (by rfl) (fun v hv => by obtain ⟨s0, s1⟩ := hv; go_simp; try with_reducible rfl) ?_
          try simp only [Act.put, List.setIfInBounds_toArray, List.set_cons_zero, List.set_cons_succ]
          refine restS_take (i := 11) S0.out rfl (by kernel_rfl) (by kernel_rfl) (by kernel_rfl) (by rfl) (fun v hv => by obtain ⟨s0, s1⟩ := hv; go_simp; try with_reducible rfl) ?_
          try simp only [Act.put, List.setIfInBounds_toArray, List.set_cons_zero, List.set_cons_succ]
          refine restS_lone (i := 4) rfl (by kernel_rfl) (by rfl) (fun K hK => ?_)
          go_simp
          refine hK.out _ _ S0.out ?_
          clear hK K
          try simp only [Act.put, List.setIfInBounds_toArray, List.set_cons_zero, List.set_cons_succ]
          refine restS_lone (i := 12) rfl (by kernel_rfl) (by rfl) (fun K hK => ?_)
          go_simp
          refine (refPut_any (A := Av) (l := u) R1.out HNU.out.symm l1 (by have := HUl.out; have := HNU.out; omega) x).mono ?_
          rintro e w2 ⟨A9, c9, rfl, ho9, hg9⟩
          have HR2 := Lib.hid ((hg9.block R hRl).trans HR.out)
          have S2 := Lib.hid (show w2.cell? ⟨R, 3, none⟩ = some (.slice (some ⟨b, off, none⟩) ng cg) ∧ w2.cell? ⟨b, off + i, none⟩ = some (.int .i64 x) from ⟨cell_of_row _ R 3 _ _ (0, 0) HR2.out, (hg9.cell (p := ⟨b, off + i, none⟩) hb).trans S0.out.2⟩)
          refine hK.out _ _ S2.out ?_
          clear hK K
          try simp only [Act.put, List.setIfInBounds_toArray, List.set_cons_zero, List.set_cons_succ]
          obtain ⟨n9, hn9⟩ : ∃ n9, n9 = (ins u x).length := ⟨_, rfl⟩
          rw [← hn9]
          obtain ⟨su1, su2, su3⟩ := HV.out.setUsed (GD.out.trans hg9) (ho9.less GD.out.size) hn9.symm
          have U := Lib.hid (SOd.step (s1 := { s with used := u }) HFo.out HCh.out ⟨A9, _, su1, su2, su3⟩)
          have S9 := Lib.hid (show (w2.setCell ⟨R, 2, none⟩ (.slice A9 n9 c9)).cell? ⟨R, 3, none⟩ = some (.slice (some ⟨b, off, none⟩) ng cg) ∧ (w2.setCell ⟨R, 2, none⟩ (.slice A9 n9 c9)).cell? ⟨b, off + i, none⟩ = some (.int .i64 x) from ⟨cell_of_row _ R 3 _ _ (0, 0) (heap_setCell_same w2 R 2 _ _ _ HR2.out), (World.cell?_of_block (a := ⟨b, off + i, none⟩) (heap_setCell_other w2 ⟨R, 2, none⟩ b _ hbR)).trans S2.out.2⟩)
          have hf9 : w2.frozen? ⟨R, 2, none⟩ = false := frozen_of_row w2 R 2 _ _ HR2.out
          have hc9 : w2.cell? ⟨R, 2, none⟩ = some (.slice Av nu cu) := cell_of_row _ R 2 _ _ (0, 0) HR2.out
          clear su1 su2 su3 ho9 hg9 hn9 q2 hbR hRl hb
          refine restS_take (i := 13) S2.out rfl (by kernel_rfl) (by kernel_rfl) (by kernel_rfl) (by rfl) (fun v hv => by go_simp; try with_reducible rfl) ?_
          try simp only [Act.put, List.setIfInBounds_toArray, List.set_cons_zero, List.set_cons_succ]
          refine restS_take (i := 14) S2.out rfl (by kernel_rfl) (by kernel_rfl) (by kernel_rfl) (by rfl) (fun v hv => by go_simp; try with_reducible rfl) ?_
          try simp only [Act.put, List.setIfInBounds_toArray, List.set_cons_zero, List.set_cons_succ]
          refine restS_lone (i := 15) rfl (by kernel_rfl) (by rfl) (fun K hK => ?_)
          go_simp
          refine hK.out _ _ S9.out ?_
          clear hK K
          try simp only [Act.put, List.setIfInBounds_toArray, List.set_cons_zero, List.set_cons_succ]
          refine restS_done (by kernel_rfl) ?_
          go_wp2
          exact ⟨⟨i + 1, by simp, by omega, by rw [HFd.out]; exact U.out⟩, by simp [intOf]; omega⟩
        · have bi : ¬ ((i : Int) < (ng : Int)) := by omega
          have HV2 := Lib.hid (show Sv wr base R Av Ah { s with used := s.going.foldl ins (l.foldl wo s.used) } by
            have h5 := HV.out
            rw [HU.out, List.take_of_length_le (by have := HNG.out; omega)] at h5
            exact h5)
          obtain ⟨su1, su2, su3⟩ := HV2.out.setGoing (w1 := wr) (A' := none) (c' := 0) (n' := 0) (l' := []) (fun _ _ _ => rfl) (Ch.refl _ _) (OwZ.nil _ _) (fun x hx => by cases hx) rfl
          have U := Lib.hid (SOd.step (s1 := { s with used := s.going.foldl ins (l.foldl wo s.used) }) (s2 := spUndo s l) HFo.out HCh.out ⟨Av, none, su1, su2, su3⟩)
          clear su1 su2 su3 HV2
          go_wp2
          refine bodyPost_end (results_none rfl _ _ _) rfl ⟨rfl, ?_⟩
          exact U.out
end
end Go.Proofs.Ytdeojgdjjckoeaa.S15
