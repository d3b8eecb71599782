/-
  The reference's twice, Ints; its space in memory: free, Free.
-/
import Derived.Test.YtdeojgdjjckoeaaSpR
import Derived.Test.YtdeojgdjjckoeaaGrt
namespace Go.Proofs.Ytdeojgdjjckoeaa.S15
open Cf
open Go.RowKit
set_option linter.unusedVariables false
set_option linter.unusedSimpArgs false
section
variable {w : World} {A A2 : Option Addr} {n c n2 c2 : Nat} {l l2 : List Int}
theorem cutZh (W : World) (A : Option Addr) (m c d : Nat) (h : d ≤ c) : (Instr.slice 30 (.slice A m c) none (some (.int .i64 (d : Int))) none).run Try.prog W = .ok (.slice A d c) W := by
  obtain ⟨i0, hi, hz0, hz1, hz2⟩ := info_parts infoZ
  have he : Try.prog.elem 30 = 3 := by kernel_rfl
  rw [run_slice_h W 30 A m c (by rw [he]; exact Try.underlying30) .i64 (d : Int) (by omega) (by omega), he]
  cases A <;> simp [sizeOf, typeInfo, hi, hz1, sliced, Result.andThen, Addr.add]
theorem tw_up (l : List Int) (i : Nat) (h : tw l i = true) : ∀ j, i ≤ j → tw l j = true := by
  intro j hj
  induction j with
  | zero => obtain rfl : i = 0 := by omega
            exact h
  | succ j ih =>
    rcases Nat.lt_or_ge j i with h1 | h1
    · obtain rfl : i = j + 1 := by omega
      exact h
    · show (tw l j || _) = true
      rw [ih h1]; rfl
set_option maxHeartbeats 4000000 in
theorem refTwice_any (h : RdZ w w.heap.size A l) (hn : l.length = n) (hnc : n ≤ c) (hn2 : n ≤ 10000) :
    Calls Try.prog 31 #[.slice A n c] w fun e w' => e = .returned (.bool (twice l)) ∧ Grown w w' := by
  have H := Lib.hid h
  have HN := Lib.hid hn
  obtain ⟨T, hT⟩ : ∃ T, T = twice l := ⟨_, rfl⟩
  rw [← hT]
  have HT := Lib.hid hT
  clear h hn hT
  go_enter Try.func31, Try.ntmps31
  go_wp2
  go_loopw [3] (fun v3 wr => ∃ i : Nat, v3 = .int .i64 (i : Int) ∧ i ≤ n ∧ Hid (tw l i = false) ∧ Hid (Grown w wr)) (fun v3 _ => n - (intOf v3).toNat)
  case atStart => exact ⟨0, rfl, Nat.zero_le _, rfl, Grown.refl _⟩
  case round =>
    obtain ⟨i, rfl, hi, HI, HG⟩ := hrel
    by_cases hlt : i < n
    · have bi : (i : Int) < (n : Int) := by omega
      have hil : i < l.length := by rw [HN.out]; exact hlt
      obtain ⟨b, off, hA, hb, hc⟩ := H.out.at_ hil
      obtain ⟨x, hx⟩ : ∃ x, x = l[i] := ⟨_, rfl⟩
      obtain ⟨R, hR⟩ : ∃ R, R = (l.take i).contains x := ⟨_, rfl⟩
      have HX := Lib.hid (show tw l (i + 1) = R by
        show (tw l i || (l.take i).contains (l.getD i 0)) = R
        rw [HI.out, hR, hx, List.getD_eq_getElem?_getD, List.getElem?_eq_getElem hil]
        rfl)
      have GD := Lib.hid (show Grown w wr.drew from Below.drew HG.out)
      have HH := Lib.hid (show ∀ v : World, Grown w v → Calls Try.prog 32 #[.slice A i c, .int .i64 x] v fun e w' => e = .returned (.bool R) ∧ w' = v from fun v hv => by
        rw [hR]; exact refHas_any v.heap.size ((H.out.grow hv).take i) (by rw [List.length_take, HN.out]; omega) (by omega) x)
      have SX := Lib.hid (show ∀ v : World, Grown w v → v.cell? ⟨b, off + i, none⟩ = some (.int .i64 x) from fun v hv => by rw [hv.cell (p := ⟨b, off + i, none⟩) hb, hc, hx])
      have hcut : ∀ V : World, (Instr.slice 30 (.slice A n c) none (some (.int .i64 (i : Int))) none).run Try.prog V = .ok (.slice A i c) V := fun V => cutZh V A n c i (by omega)
      subst hA
      clear hx hR hc hil HI
      go_wp2_with fail
      refine restS_begin (fun v : World => v.cell? ⟨b, off + i, none⟩ = some (.int .i64 x)) (by kernel_rfl) ?_
      generalize wr.drew = wd at GD ⊢
      have S0 := Lib.hid (SX.out wd GD.out)
      refine restS_take (i := 0) S0.out rfl (by kernel_rfl) (by kernel_rfl) (by kernel_rfl) (by rfl) (fun v hv => by go_simp; try with_reducible rfl) ?_
      try simp only [Act.put, List.setIfInBounds_toArray, List.set_cons_zero, List.set_cons_succ]
      refine restS_take (i := 1) S0.out rfl (by kernel_rfl) (by kernel_rfl) (by kernel_rfl) (by rfl) (fun v hv => by go_simp; try with_reducible rfl) ?_
      try simp only [Act.put, List.setIfInBounds_toArray, List.set_cons_zero, List.set_cons_succ]
      refine restS_take (i := 2) S0.out rfl (by kernel_rfl) (by kernel_rfl) (by kernel_rfl) (by rfl) (fun v hv => by go_simp; try with_reducible rfl) ?_
      try simp only [Act.put, List.setIfInBounds_toArray, List.set_cons_zero, List.set_cons_succ]
      refine restS_take (i := 3) S0.out rfl (by kernel_rfl) (by kernel_rfl) (by kernel_rfl) (by rfl) (fun v hv => by go_simp; try with_reducible rfl) ?_
      try simp only [Act.put, List.setIfInBounds_toArray, List.set_cons_zero, List.set_cons_succ]
      refine restS_take (i := 4) S0.out rfl (by kernel_rfl) (by kernel_rfl) (by kernel_rfl) (by rfl) (fun v hv => by go_simp; try with_reducible rfl) ?_
      try simp only [Act.put, List.setIfInBounds_toArray, List.set_cons_zero, List.set_cons_succ]
      refine restS_take (i := 5) S0.out rfl (by kernel_rfl) (by kernel_rfl) (by kernel_rfl) (by rfl) (fun v hv => by go_simp; try with_reducible rfl) ?_
      try simp only [Act.put, List.setIfInBounds_toArray, List.set_cons_zero, List.set_cons_succ]
      refine restS_take (i := 6) S0.out rfl (by kernel_rfl) (by kernel_rfl) (by kernel_rfl) (by rfl) (fun v hv => by go_simp; try with_reducible rfl) ?_
      try simp only [Act.put, List.setIfInBounds_toArray, List.set_cons_zero, List.set_cons_succ]
      refine restS_lone (i := 7) rfl (by kernel_rfl) (by rfl) (fun K hK => ?_)
      go_simp
      refine (HH.out wd GD.out).mono ?_
      rintro e v1 ⟨rfl, rfl⟩
      refine hK.out _ _ S0.out ?_
      clear hK K
      try simp only [Act.put, List.setIfInBounds_toArray, List.set_cons_zero, List.set_cons_succ]
      refine restS_done (by kernel_rfl) ?_
      cases R with
      | true =>
        have HE := Lib.hid (show T = true by rw [HT.out]; unfold twice; exact tw_up l (i + 1) HX.out _ (by rw [HN.out]; omega))
        clear hcut
        go_wp2
        go_ret
        exact ⟨by rw [HE.out]; rfl, GD.out⟩
      | false =>
        clear hcut
        go_wp2
        exact ⟨⟨i + 1, by simp, by omega, HX.out, GD.out⟩, by simp [intOf]; omega⟩
    · have bi : ¬ ((i : Int) < (n : Int)) := by omega
      have HE := Lib.hid (show T = false by rw [HT.out]; unfold twice; rw [show l.length = i by rw [HN.out]; omega]; exact HI.out)
      go_wp2
      go_ret
      exact ⟨by rw [HE.out]; rfl, HG.out⟩
set_option maxHeartbeats 4000000 in
theorem refInts_any (h : RdZ w w.heap.size A l) (hn : l.length = n) (hnc : n ≤ 10000) (h2 : RdZ w w.heap.size A2 l2) (hn2 : l2.length = n2) (hnc2 : n2 ≤ 10000) :
    Calls Try.prog 22 #[.slice A n c, .slice A2 n2 c2] w fun e w' => e = .returned (.bool (decide (l = l2))) ∧ Grown w w' := by
  have H := Lib.hid h
  have HN := Lib.hid hn
  have H2 := Lib.hid h2
  have HN2 := Lib.hid hn2
  obtain ⟨T, hT⟩ : ∃ T, T = decide (l = l2) := ⟨_, rfl⟩
  rw [← hT]
  have HT := Lib.hid hT
  clear h hn hT h2 hn2
  by_cases hnn : n = n2
  · subst hnn
    go_enter Try.func22, Try.ntmps22
    go_wp2
    go_loopw [5] (fun v5 wr => ∃ i : Nat, v5 = .int .i64 (i : Int) ∧ i ≤ n ∧ Hid (l.take i = l2.take i) ∧ Hid (Grown w wr)) (fun v5 _ => n - (intOf v5).toNat)
    case atStart => exact ⟨0, rfl, Nat.zero_le _, rfl, Grown.refl _⟩
    case round =>
      obtain ⟨i, rfl, hi, HI, HG⟩ := hrel
      by_cases hlt : i < n
      · have bi : (i : Int) < (n : Int) := by omega
        have hil : i < l.length := by rw [HN.out]; exact hlt
        have hil2 : i < l2.length := by rw [HN2.out]; exact hlt
        obtain ⟨b, off, hA, hb, hc⟩ := H.out.at_ hil
        obtain ⟨b2, off2, hA2, hb2, hc2⟩ := H2.out.at_ hil2
        obtain ⟨x, hx⟩ : ∃ x, x = l[i] := ⟨_, rfl⟩
        obtain ⟨y, hy⟩ : ∃ y, y = l2[i] := ⟨_, rfl⟩
        have HX := Lib.hid (show x = y → l.take (i + 1) = l2.take (i + 1) from fun e => by rw [List.take_succ_eq_append_getElem hil, List.take_succ_eq_append_getElem hil2, HI.out, ← hx, ← hy, e])
        have HY := Lib.hid (show ¬ x = y → T = false from fun e => by rw [HT.out]; apply decide_eq_false; intro e2; apply e; rw [hx, hy]; simp only [e2])
        have GD := Lib.hid (show Grown w wr.drew from Below.drew HG.out)
        have SX := Lib.hid (show ∀ v : World, Grown w v → v.cell? ⟨b, off + i, none⟩ = some (.int .i64 x) ∧ v.cell? ⟨b2, off2 + i, none⟩ = some (.int .i64 y) from fun v hv => ⟨by rw [hv.cell (p := ⟨b, off + i, none⟩) hb, hc, hx], by rw [hv.cell (p := ⟨b2, off2 + i, none⟩) hb2, hc2, hy]⟩)
        subst hA hA2
        clear hx hy hc hc2 hil hil2
        go_wp2_with fail
        refine restS_begin (fun v : World => v.cell? ⟨b, off + i, none⟩ = some (.int .i64 x) ∧ v.cell? ⟨b2, off2 + i, none⟩ = some (.int .i64 y)) (by kernel_rfl) ?_
        generalize wr.drew = wd at GD ⊢
        have S0 := Lib.hid (SX.out wd GD.out)
        refine restS_take (i := 0) S0.out rfl (by kernel_rfl) (by kernel_rfl) (by kernel_rfl) (by rfl) (fun v hv => by obtain ⟨s0, s1⟩ := hv; go_simp; try with_reducible rfl) ?_
        try simp only [Act.put, List.setIfInBounds_toArray, List.set_cons_zero, List.set_cons_succ]
        refine restS_take (i := 1) S0.out rfl (by kernel_rfl) (by kernel_rfl) (by kernel_rfl) (by rfl) (fun v hv => by obtain ⟨s0, s1⟩ := hv; go_simp; try with_reducible rfl) ?_
        try simp only [Act.put, List.setIfInBounds_toArray, List.set_cons_zero, List.set_cons_succ]
        refine restS_take (i := 2) S0.out rfl (by kernel_rfl) (by kernel_rfl) (by kernel_rfl) (by rfl) (fun v hv => by obtain ⟨s0, s1⟩ := hv; go_simp; try with_reducible rfl) ?_
        try simp only [Act.put, List.setIfInBounds_toArray, List.set_cons_zero, List.set_cons_succ]
        refine restS_take (i := 3) S0.out rfl (by kernel_rfl) (by kernel_rfl) (by kernel_rfl) (by rfl) (fun v hv => by obtain ⟨s0, s1⟩ := hv; go_simp; try with_reducible rfl) ?_
        try simp only [Act.put, List.setIfInBounds_toArray, List.set_cons_zero, List.set_cons_succ]
        refine restS_take (i := 4) S0.out rfl (by kernel_rfl) (by kernel_rfl) (by kernel_rfl) (by rfl) (fun v hv => by obtain ⟨s0, s1⟩ := hv; go_simp; try with_reducible rfl) ?_
        try simp only [Act.put, List.setIfInBounds_toArray, List.set_cons_zero, List.set_cons_succ]
        refine restS_take (i := 5) S0.out rfl (by kernel_rfl) (by kernel_rfl) (by kernel_rfl) (by rfl) (fun v hv => by obtain ⟨s0, s1⟩ := hv; go_simp; try with_reducible rfl) ?_
        try simp only [Act.put, List.setIfInBounds_toArray, List.set_cons_zero, List.set_cons_succ]
        refine restS_take (i := 6) S0.out rfl (by kernel_rfl) (by kernel_rfl) (by kernel_rfl) (by rfl) (fun v hv => by obtain ⟨s0, s1⟩ := hv; go_simp; try with_reducible rfl) ?_
        try simp only [Act.put, List.setIfInBounds_toArray, List.set_cons_zero, List.set_cons_succ]
        refine restS_take (i := 7) S0.out rfl (by kernel_rfl) (by kernel_rfl) (by kernel_rfl) (by rfl) (fun v hv => by obtain ⟨s0, s1⟩ := hv; go_simp; try with_reducible rfl) ?_
        try simp only [Act.put, List.setIfInBounds_toArray, List.set_cons_zero, List.set_cons_succ]
        refine restS_take (i := 8) S0.out rfl (by kernel_rfl) (by kernel_rfl) (by kernel_rfl) (by rfl) (fun v hv => by obtain ⟨s0, s1⟩ := hv; go_simp; try with_reducible rfl) ?_
        try simp only [Act.put, List.setIfInBounds_toArray, List.set_cons_zero, List.set_cons_succ]
        refine restS_done (by kernel_rfl) ?_
        by_cases hxy : x = y
        · have HC := Lib.hid (HX.out hxy)
          subst hxy
          go_wp2
          exact ⟨⟨i + 1, by simp, by omega, HC.out, GD.out⟩, by simp [intOf]; omega⟩
        · have HC := Lib.hid (HY.out hxy)
          go_wp2
          go_ret
          exact ⟨by rw [HC.out]; rfl, GD.out⟩
      · have bi : ¬ ((i : Int) < (n : Int)) := by omega
        have HE := Lib.hid (show T = true by
          rw [HT.out]
          apply decide_eq_true
          have := HI.out
          rwa [List.take_of_length_le (by rw [HN.out]; omega), List.take_of_length_le (by rw [HN2.out]; omega)] at this)
        go_wp2
        go_ret
        exact ⟨by rw [HE.out]; rfl, HG.out⟩
  · have bn : ¬ (n : Int) = (n2 : Int) := by omega
    have HE := Lib.hid (show T = false by rw [HT.out]; apply decide_eq_false; intro e; apply hnn; rw [← HN.out, ← HN2.out, e])
    go_enter Try.func22, Try.ntmps22
    go_wp2
    go_ret
    exact ⟨by rw [HE.out]; rfl, Grown.refl _⟩
end
end Go.Proofs.Ytdeojgdjjckoeaa.S15
