/-
  The reference's space: Give.
-/
import Derived.Test.YtdeojgdjjckoeaaSpI
namespace Go.Proofs.Ytdeojgdjjckoeaa.S15
open Cf
open Go.RowKit
set_option linter.unusedVariables false
set_option linter.unusedSimpArgs false
theorem moved_or {w : World} {A A' : Option Addr} (h : Moved w A A') : ∀ x, A' = some x → A = some x ∨ w.heap.size ≤ x.block := by
  intro x hx
  rcases h with rfl | ⟨y, hy, hy2⟩
  · exact .inl hx
  · rw [hx] at hy; simp only [Option.some.injEq] at hy; subst hy; exact .inr hy2
/-- What its guard passes over. -/
theorem restS_pass {P : Program} {ops : Array Oper} {Q : Exit → Act → World → Prop} {S : World → Prop} {i : Nat} {d : Option Tmp} {op : Op} {ty : TypeId} {pos : String} {after : Array Edge} {guard : Option (Nat × Bool)} {fuel : Nat} {listed : Array Bool} {a : Act} {w : World} (hSw : S w) (hi : ops[i]? = some ⟨d, op, ty, pos, after, guard⟩)
    (hs : Region.noSelect ops = true) (hf : Region.free .any ops listed i = true) (hr : (Region.ready .any ops listed).contains i = true) (hwn : Region.wanted ⟨d, op, ty, pos, after, guard⟩ (yielded ops a.tmps) = false)
    (h : RestS P ops Q S fuel (listed.setIfInBounds i true) (a.put d undef) w) : RestS P ops Q S (fuel + 1) listed a w :=
  wpAnyH_take hi hs hf hr (fun _ _ _ h => h) (.inr ⟨hwn, rfl⟩) hSw h
theorem wp_appOw {P : Program} {w : World} {base : Nat} {e t : TypeId} {i0 : TypeInfo} {z : Value} {bytes : Nat} (ht : P.underlying t = some (.slice e)) (hi : P.info? e = some i0) (hz : i0.zero = some z) (hz1 : i0.size = 1) (hz2 : i0.bytes = bytes) (hzc : z.cells.size = 1) (hb16 : bytes ≤ 64)
    {A : Option Addr} {c n c2 : Nat} {ad : Addr} {vs : List Value} {u : Value} {o : Oper} {a : Act} {K : Act → World → Prop} {Q : Exit → Act → World → Prop} (s x : Operand) (ho : o.op = .call { callee := .builtin .append, args := #[s, x], argTypes := #[t, t] })
    (hn : vs.length = n) (hs : a.eval s = .slice A n c) (h : Ow w base e A c vs) (hx : a.eval x = .slice (some ad) 1 c2) (h2 : w.cell? ad = some u) (hu : u.oneCell' = true) (hl : n ≤ 100000) (hbase : base ≤ w.heap.size)
    (hk : ∀ A' c' w', Ow w' base e A' c' (vs ++ [u]) → w.grownBy w' (Value.slice A n c).ownBlock → Moved w A A' → K (a.put o.dst (.slice A' (n + 1) c')) w') : Oper.wp P o a w K Q := by
  subst hn
  obtain ⟨A', c', w', hrun, hown', hg, hm⟩ := app_moved (P := P) (ty := o.type) ht hi hz hz1 hz2 hzc (by omega) h ad 1 c2 [u] (by omega) (by simp) (fun j v hv => by
    match j, hv with
    | 0, hv => simp at hv; subst hv; simpa [Addr.add] using h2) (fun v hv => by simp at hv; subst hv; exact hu) (by unfold maxLen; omega) (by
      have : (vs.length + 1) * bytes ≤ 100001 * 64 := Nat.mul_le_mul (by omega) hb16
      omega) hbase
  unfold Oper.wp execOp
  simp only [ho, resolve, invoke, builtin, Sem.run_bind, Sem.run_pure, Result.andThen_ok, List.map_toArray, List.map_cons, List.map_nil, hs, hx, hrun]
  refine hk A' c' w' ?_ hg hm
  unfold Ow
  rw [List.length_append]
  exact hown'
theorem chGrownBy {F : Nat → Prop} {w w' w2 : World} {row : Option Nat} (h : Ch F w w') (hg : w'.grownBy w2 row) (hF : ∀ k, row = some k → F k ∨ w.heap.size ≤ k) : Ch F w w2 where
  os := hg.os.trans h.os
  tape := hg.tape.trans h.tape
  output := hg.output.trans h.output
  size := Nat.le_trans h.size hg.size
  block := fun k hk hf => (hg.block k (Nat.lt_of_lt_of_le hk h.size) (fun e => by rcases hF k e.symm with h | h; exact hf h; omega)).trans (h.block k hk hf)
section
variable {w : World} {base R : Nat} {Au Ag : Option Addr} {s : Sp}
theorem wo_fold_len (l : List Int) : ∀ u : List Int, (l.foldl wo u).length ≤ u.length := by
  induction l with
  | nil => intro u; exact Nat.le_refl _
  | cons x l ih => intro u; rw [List.foldl_cons]; exact Nat.le_trans (ih _) (wo_len u x)
/-- Other ones that go, in the same row or in a new one. -/
theorem Sv.setGoing {w1 : World} (h : Sv w base R Au Ag s) {A' : Option Addr} {c' n' : Nat} {l' : List Int} (hk : ∀ k, SvF R Au Ag k → (∀ x, Ag = some x → x.block ≠ k) → w1.heap[k]? = w.heap[k]?) (hc : Ch (SvF R Au Ag) w w1) (ho : OwZ w1 base A' c' l') (hm : ∀ x, A' = some x → Ag = some x ∨ w.heap.size ≤ x.block) (hn : l'.length = n') :
    Sv (w1.setCell ⟨R, 3, none⟩ (.slice A' n' c')) base R Au A' { s with going := l' } ∧ (∀ k, SvF R Au A' k → SvF R Au Ag k ∨ w.heap.size ≤ k) ∧ Ch (SvF R Au Ag) w (w1.setCell ⟨R, 3, none⟩ (.slice A' n' c')) := by
  subst hn
  obtain ⟨cu, cg, hR, h2, h3⟩ := h.ex
  have hRl := (h.lt R (.inl rfl)).2
  have hR1 : w1.heap[R]? = _ := (hk R (.inl rfl) (fun x hx => h.ng x hx)).trans hR
  have hng : ∀ x, A' = some x → x.block ≠ R := fun x hx e => by
    rcases hm x hx with h4 | h4
    · exact h.ng x h4 e
    · omega
  have hap : Apart Au A' := fun x y hx hy e => by
    rcases hm y hy with h4 | h4
    · exact h.ug x y hx h4 e
    · have := (h2.lt x hx).2; omega
  refine ⟨⟨h.bR, h.nu, hng, hap, ⟨cu, c', ?_, ?_, ho.offR hng 3 _⟩⟩, fun k hk => ?_, Ch.setCell hc (p := ⟨R, 3, none⟩) (.inl (.inl rfl)) _⟩
  · rw [heap_setCell_same w1 R 3 _ _ _ hR1]
    rfl
  · refine OwZ.offR (h2.keep fun x hx => hk _ (.inr (.inl ⟨x, hx, rfl⟩)) (fun y hy e => h.ug x y hx hy e.symm)) h.nu 3 _
  · rcases hk with e | ⟨x, hx, e⟩ | ⟨x, hx, e⟩
    · exact .inl (.inl e)
    · exact .inl (.inr (.inl ⟨x, hx, e⟩))
    · rcases hm x hx with h4 | h4
      · exact .inl (.inr (.inr ⟨x, h4, e⟩))
      · exact .inr (by omega)
set_option maxHeartbeats 8000000 in
theorem refGive_any (h : Sv w base R Au Ag s) (hz : Sz s) (A : Option Addr) (n c : Nat) (l : List Int) (ha : RdZ w w.heap.size A l) (hn : l.length = n) (hnc : n ≤ c) (hn2 : n ≤ 1000) (hu2 : s.going.length ≤ 4000) (hoff : ∀ x, A = some x → l ≠ [] → ¬ SvF R Au Ag x.block) :
    Calls Try.prog 15 #[.pointer (some ⟨R, 0, none⟩), .slice A n c] w fun e w' => e = .returned (.int .i64 (spGive s l).1) ∧ SOd base R w (SvF R Au Ag) (spGive s l).2 w' := by
  have H := Lib.hid h
  have HZ := Lib.hid hz
  have HA := Lib.hid ha
  have HN := Lib.hid hn
  have HO := Lib.hid hoff
  have HU2 := Lib.hid hu2
  clear h hz ha hn hoff hu2
  go_enter Try.func15, Try.ntmps15
  go_wp2
  go_loopw [5] (fun v5 wr => ∃ i : Nat, v5 = .int .i64 (i : Int) ∧ i ≤ n ∧ Hid (∀ j (h : j < l.length), j < i → s.used.contains l[j] = true) ∧ Hid (0 < i → twice l = false) ∧ Hid (Grown w wr)) (fun v5 _ => n - (intOf v5).toNat)
  case atStart => exact ⟨0, rfl, Nat.zero_le _, (fun j h hj => by omega), (fun h => by omega), Grown.refl _⟩
  case round =>
    obtain ⟨i, rfl, hi, HI, HW, HG⟩ := hrel
    by_cases hlt : i < n
    · have bi : (i : Int) < (n : Int) := by omega
      have hil : i < l.length := by rw [HN.out]; exact hlt
      obtain ⟨b, off, hA, hb, hc⟩ := HA.out.at_ hil
      obtain ⟨x, hx⟩ : ∃ x, x = l[i] := ⟨_, rfl⟩
      have hcr : wr.cell? ⟨b, off + i, none⟩ = some (.int .i64 x) := by rw [HG.out.cell (p := ⟨b, off + i, none⟩) hb, hc, hx]
      have HX := Lib.hid hx
      have HRd := Lib.hid (HA.out.grow HG.out)
      subst hA
      clear hx hc
      obtain ⟨cu, cg, l1, l2, q0, q1, q2, q3, r1, r2⟩ := (H.out.grow HG.out).cells
      obtain ⟨nu, hnu⟩ : ∃ x, x = s.used.length := ⟨_, rfl⟩
      have q2' : wr.cell? ⟨R, 2, none⟩ = some (.slice Au nu cu) := by rw [hnu]; exact q2
      have GD := Lib.hid (show Grown w wr.drew from HG.out.trans (Below.refl _ wr).drew)
      have S0 := Lib.hid (show wr.drew.cell? ⟨b, off + i, none⟩ = some (.int .i64 x) ∧ wr.drew.cell? ⟨R, 2, none⟩ = some (.slice Au nu cu) from ⟨hcr, q2'⟩)
      have HH := Lib.hid (refHas_any (A := Au) (c := cu) (w := wr.drew) wr.drew.heap.size (l := s.used) (n := nu) (by obtain ⟨_, _, _, _, _, _, _, _, r1, _⟩ := (H.out.grow GD.out).cells; exact r1) hnu.symm (by have := HZ.out.1; omega) x)
      clear q0 q1 q2 q3 q2' l1 l2 r1 r2 hnu hcr
      go_wp2_with fail
      refine restS_begin (fun v : World => v.cell? ⟨b, off + i, none⟩ = some (.int .i64 x) ∧ v.cell? ⟨R, 2, none⟩ = some (.slice Au nu cu)) (by kernel_rfl) ?_
      generalize wr.drew = wd at GD S0 HH ⊢
      refine restS_take (i := 0) S0.out rfl (by kernel_rfl) (by kernel_rfl) (by kernel_rfl) (by rfl) (fun v hv => by obtain ⟨s0, s1⟩ := hv; go_simp; try with_reducible rfl) ?_
      try simp only [Act.put, List.setIfInBounds_toArray, List.set_cons_zero, List.set_cons_succ]
      refine restS_take (i := 1) S0.out rfl (by kernel_rfl) (by kernel_rfl) (by kernel_rfl) (by rfl) (fun v hv => by obtain ⟨s0, s1⟩ := hv; go_simp; try with_reducible rfl) ?_
      try simp only [Act.put, List.setIfInBounds_toArray, List.set_cons_zero, List.set_cons_succ]
      refine restS_take (i := 2) S0.out rfl (by kernel_rfl) (by kernel_rfl) (by kernel_rfl) (by rfl) (fun v hv => by obtain ⟨s0, s1⟩ := hv; go_simp; try with_reducible rfl) ?_
      try simp only [Act.put, List.setIfInBounds_toArray, List.set_cons_zero, List.set_cons_succ]
      refine restS_take (i := 3) S0.out rfl (by kernel_rfl) (by kernel_rfl) (by kernel_rfl) (by rfl) (fun v hv => by obtain ⟨s0, s1⟩ := hv; go_simp; try with_reducible rfl) ?_
      try simp only [Act.put, List.setIfInBounds_toArray, List.set_cons_zero, List.set_cons_succ]
      refine restS_take (i := 4) S0.out rfl (by kernel_rfl) (by kernel_rfl) (by kernel_rfl) (by rfl) (fun v hv => by obtain ⟨s0, s1⟩ := hv; go_simp; try with_reducible rfl) ?_
      try simp only [Act.put, List.setIfInBounds_toArray, List.set_cons_zero, List.set_cons_succ]
      refine restS_take (i := 5) S0.out rfl (by kernel_rfl) (by kernel_rfl) (by kernel_rfl) (by rfl) (fun v hv => by obtain ⟨s0, s1⟩ := hv; go_simp; try with_reducible rfl) ?_
      try simp only [Act.put, List.setIfInBounds_toArray, List.set_cons_zero, List.set_cons_succ]
      refine restS_take (i := 6) S0.out rfl (by kernel_rfl) (by kernel_rfl) (by kernel_rfl) (by rfl) (fun v hv => by obtain ⟨s0, s1⟩ := hv; go_simp; try with_reducible rfl) ?_
      try simp only [Act.put, List.setIfInBounds_toArray, List.set_cons_zero, List.set_cons_succ]
      refine restS_take (i := 7) S0.out rfl (by kernel_rfl) (by kernel_rfl) (by kernel_rfl) (by rfl) (fun v hv => by obtain ⟨s0, s1⟩ := hv; go_simp; try with_reducible rfl) ?_
      try simp only [Act.put, List.setIfInBounds_toArray, List.set_cons_zero, List.set_cons_succ]
      refine restS_lone (i := 8) rfl (by kernel_rfl) (by rfl) (fun K hK => ?_)
      go_simp
      refine HH.out.mono ?_
      rintro e w1 ⟨rfl, rfl⟩
      refine hK.out _ _ S0.out ?_
      clear hK K
      try simp only [Act.put, List.setIfInBounds_toArray, List.set_cons_zero, List.set_cons_succ]
      obtain ⟨fr, hfr⟩ : ∃ fr, fr = s.used.contains x := ⟨_, rfl⟩
      rw [← hfr]
      have HFR := Lib.hid hfr
      clear hfr
      cases fr with
      | false =>
        have HE := Lib.hid (show spGive s l = (2, s) by
          unfold spGive
          rw [if_neg]
          intro hh
          rw [Bool.and_eq_true, List.all_eq_true] at hh
          have := hh.1 l[i] (List.getElem_mem hil)
          rw [← HX.out, ← HFR.out] at this
          cases this)
        clear hil HX
        refine restS_take (i := 9) S0.out rfl (by kernel_rfl) (by kernel_rfl) (by kernel_rfl) (by rfl) (fun v hv => by go_simp; try with_reducible rfl) ?_
        try simp only [Act.put, List.setIfInBounds_toArray, List.set_cons_zero, List.set_cons_succ]
        refine restS_take (i := 10) S0.out rfl (by kernel_rfl) (by kernel_rfl) (by kernel_rfl) (by rfl) (fun v hv => by go_simp; try with_reducible rfl) ?_
        try simp only [Act.put, List.setIfInBounds_toArray, List.set_cons_zero, List.set_cons_succ]
        refine restS_pass (i := 11) S0.out rfl (by kernel_rfl) (by kernel_rfl) (by kernel_rfl) (by rfl) ?_
        try simp only [Act.put, List.setIfInBounds_toArray, List.set_cons_zero, List.set_cons_succ]
        refine restS_pass (i := 12) S0.out rfl (by kernel_rfl) (by kernel_rfl) (by kernel_rfl) (by rfl) ?_
        try simp only [Act.put, List.setIfInBounds_toArray, List.set_cons_zero, List.set_cons_succ]
        refine restS_take (i := 13) S0.out rfl (by kernel_rfl) (by kernel_rfl) (by kernel_rfl) (by rfl) (fun v hv => by go_simp; try with_reducible rfl) ?_
        try simp only [Act.put, List.setIfInBounds_toArray, List.set_cons_zero, List.set_cons_succ]
        refine restS_done (by kernel_rfl) ?_
        go_wp2
        go_ret
        rw [HE.out]
        exact ⟨rfl, SOd.grown H.out GD.out⟩
      | true =>
        refine restS_take (i := 9) S0.out rfl (by kernel_rfl) (by kernel_rfl) (by kernel_rfl) (by rfl) (fun v hv => by go_simp; try with_reducible rfl) ?_
        try simp only [Act.put, List.setIfInBounds_toArray, List.set_cons_zero, List.set_cons_succ]
        refine restS_take (i := 10) S0.out rfl (by kernel_rfl) (by kernel_rfl) (by kernel_rfl) (by rfl) (fun v hv => by go_simp; try with_reducible rfl) ?_
        try simp only [Act.put, List.setIfInBounds_toArray, List.set_cons_zero, List.set_cons_succ]
        refine restS_take (i := 11) S0.out rfl (by kernel_rfl) (by kernel_rfl) (by kernel_rfl) (by rfl) (fun v hv => by go_simp; try with_reducible rfl) ?_
        try simp only [Act.put, List.setIfInBounds_toArray, List.set_cons_zero, List.set_cons_succ]
        refine restS_lone (i := 12) rfl (by kernel_rfl) (by rfl) (fun K hK => ?_)
        go_simp
        refine (refTwice_any (HA.out.grow GD.out) HN.out hnc (by omega)).mono ?_
        rintro e w2 ⟨rfl, hg2⟩
        have G2 := Lib.hid (Grown.trans GD.out hg2)
        have S2 := Lib.hid (show w2.cell? ⟨b, off + i, none⟩ = some (.int .i64 x) ∧ w2.cell? ⟨R, 2, none⟩ = some (.slice Au nu cu) from ⟨(hg2.cell (p := ⟨b, off + i, none⟩) (Nat.lt_of_lt_of_le hb GD.out.size)).trans S0.out.1, (hg2.cell (p := ⟨R, 2, none⟩) ((H.out.grow GD.out).lt R (.inl rfl)).2).trans S0.out.2⟩)
        refine hK.out _ _ S2.out ?_
        clear hK K hg2
        try simp only [Act.put, List.setIfInBounds_toArray, List.set_cons_zero, List.set_cons_succ]
        obtain ⟨t, ht⟩ : ∃ t, t = twice l := ⟨_, rfl⟩
        rw [← ht]
        have HTW := Lib.hid ht
        clear ht
        refine restS_take (i := 13) S2.out rfl (by kernel_rfl) (by kernel_rfl) (by kernel_rfl) (by rfl) (fun v hv => by go_simp; try with_reducible rfl) ?_
        try simp only [Act.put, List.setIfInBounds_toArray, List.set_cons_zero, List.set_cons_succ]
        refine restS_done (by kernel_rfl) ?_
        cases t with
        | true =>
          have HE := Lib.hid (show spGive s l = (2, s) by
            unfold spGive
            rw [if_neg]
            intro hh
            rw [← HTW.out] at hh
            simp at hh)
          clear hil HX
          go_wp2
          go_ret
          rw [HE.out]
          exact ⟨rfl, SOd.grown H.out G2.out⟩
        | false =>
          have HIn := Lib.hid (show ∀ j (h : j < l.length), j < i + 1 → s.used.contains l[j] = true from fun j hj hji => by
            by_cases e : j = i
            · subst e; rw [← HX.out]; exact HFR.out.symm
            · exact HI.out j hj (by omega))
          clear hil HX
          go_wp2
          exact ⟨⟨i + 1, by simp, by omega, HIn.out, (fun _ => HTW.out.symm), G2.out⟩, by simp [intOf]; omega⟩
    · have bi : ¬ ((i : Int) < (n : Int)) := by omega
      have HE := Lib.hid (show spGive s l = (0, { s with used := l.foldl wo s.used, going := s.going ++ l }) by
        unfold spGive
        rw [if_pos]
        rw [Bool.and_eq_true, List.all_eq_true]
        refine ⟨fun x hx => ?_, ?_⟩
        · obtain ⟨j, hj, e⟩ := List.getElem_of_mem hx
          rw [← e]
          exact HI.out j hj (by rw [HN.out] at hj; omega)
        · by_cases h0 : i = 0
          · have : l = [] := List.eq_nil_of_length_eq_zero (by rw [HN.out]; omega)
            rw [this]; rfl
          · rw [HW.out (by omega)]; rfl)
      clear HI HW
      go_wp2_with fail
      go_loopw [6] (fun v6 wq => ∃ j : Nat, v6 = .int .i64 (j : Int) ∧ j ≤ n ∧ Hid (SOd base R w (SvF R Au Ag) { s with used := (l.take j).foldl wo s.used, going := s.going ++ l.take j } wq)) (fun v6 _ => n - (intOf v6).toNat)
      case atStart => exact ⟨0, rfl, Nat.zero_le _, by show SOd _ _ _ _ _ _; rw [List.take_zero, List.append_nil]; exact SOd.grown H.out HG.out⟩
      case round =>
        obtain ⟨j, rfl, hj, HS⟩ := hrel
        by_cases hjn : j < n
        · have bj : (j : Int) < (n : Int) := by omega
          have hjl : j < l.length := by rw [HN.out]; exact hjn
          obtain ⟨Av, Ah, hv, hfo, hch⟩ := HS.out
          have hcr := rdZ_ch HA.out hch HO.out
          obtain ⟨b, off, hA, hb, hc⟩ := hcr.at_ hjl
          obtain ⟨x, hx⟩ : ∃ x, x = l[j] := ⟨_, rfl⟩
          rw [← hx] at hc
          have HV := Lib.hid hv
          have HFo := Lib.hid hfo
          have HCh := Lib.hid hch
          have HFd := Lib.hid (show (l.take (j + 1)).foldl wo s.used = wo ((l.take j).foldl wo s.used) x by rw [fold_take l s.used wo j hjl, hx])
          have HFe := Lib.hid (show s.going ++ l.take (j + 1) = (s.going ++ l.take j) ++ [x] by rw [List.take_succ_eq_append_getElem hjl, hx, List.append_assoc])
          obtain ⟨u, hu⟩ : ∃ u, u = (l.take j).foldl wo s.used := ⟨_, rfl⟩
          obtain ⟨g, hg⟩ : ∃ g, g = s.going ++ l.take j := ⟨_, rfl⟩
          have HUl := Lib.hid (show u.length ≤ 5000 by rw [hu]; have := wo_fold_len (l.take j) s.used; have := HZ.out.1; omega)
          have HGl := Lib.hid (show g.length ≤ 5000 by rw [hg, List.length_append, List.length_take]; have := HU2.out; omega)
          rw [← hg] at HV HFe
          rw [← hu] at HV HFd
          subst hA
          have hbF : ¬ SvF R Au Ag b := HO.out _ rfl (fun e2 => by rw [e2] at hjl; exact absurd hjl (by simp))
          have hbR : b ≠ R := fun e => hbF (.inl e)
          have hbw : b < w.heap.size := by
            obtain ⟨b', off', e, hb', _⟩ := HA.out.at_ hjl
            simp only [Option.some.injEq, Addr.mk.injEq] at e
            rw [e.1]; exact hb'
          clear hv hfo hch hcr hjl hx hu hg
          obtain ⟨cu, cg, l1, l2, q0, q1, q2, q3, r1, r2⟩ := HV.out.cells
          obtain ⟨nu, hnu⟩ : ∃ x, x = u.length := ⟨_, rfl⟩
          have q2' : wr.cell? ⟨R, 2, none⟩ = some (.slice Av nu cu) := by rw [hnu]; exact q2
          have l1' : nu ≤ cu := by rw [hnu]; exact l1
          have GD := Lib.hid (show Grown wr wr.drew from (Below.refl _ wr).drew)
          have S0 := Lib.hid (show wr.drew.cell? ⟨b, off + j, none⟩ = some (.int .i64 x) from hc)
          have q2d : wr.drew.cell? ⟨R, 2, none⟩ = some (.slice Av nu cu) := q2'
          have HNU := Lib.hid hnu
          clear q0 q1 q2 q3 q2' l1 l2 r1 r2 hnu
          go_wp2_with fail
          refine restS_begin (fun v : World => v.cell? ⟨b, off + j, none⟩ = some (.int .i64 x)) (by kernel_rfl) ?_
          generalize wr.drew = wd at GD S0 q2d ⊢
          refine restS_take (i := 0) S0.out rfl (by kernel_rfl) (by kernel_rfl) (by kernel_rfl) (by rfl) (fun v hv => by go_simp; try with_reducible rfl) ?_
          try simp only [Act.put, List.setIfInBounds_toArray, List.set_cons_zero, List.set_cons_succ]
          refine restS_take (i := 1) S0.out rfl (by kernel_rfl) (by kernel_rfl) (by kernel_rfl) (by rfl) (fun v hv => by go_simp; try with_reducible rfl) ?_
          try simp only [Act.put, List.setIfInBounds_toArray, List.set_cons_zero, List.set_cons_succ]
          refine restS_take (i := 2) S0.out rfl (by kernel_rfl) (by kernel_rfl) (by kernel_rfl) (by rfl) (fun v hv => by go_simp; try with_reducible rfl) ?_
          try simp only [Act.put, List.setIfInBounds_toArray, List.set_cons_zero, List.set_cons_succ]
          refine restS_take (i := 3) S0.out rfl (by kernel_rfl) (by kernel_rfl) (by kernel_rfl) (by rfl) (fun v hv => by go_simp; try with_reducible rfl) ?_
          try simp only [Act.put, List.setIfInBounds_toArray, List.set_cons_zero, List.set_cons_succ]
          refine restS_take (i := 5) S0.out rfl (by kernel_rfl) (by kernel_rfl) (by kernel_rfl) (by rfl) (fun v hv => by go_simp; try with_reducible rfl) ?_
          try simp only [Act.put, List.setIfInBounds_toArray, List.set_cons_zero, List.set_cons_succ]
          refine restS_take (i := 6) S0.out rfl (by kernel_rfl) (by kernel_rfl) (by kernel_rfl) (by rfl) (fun v hv => by go_simp; try with_reducible rfl) ?_
          try simp only [Act.put, List.setIfInBounds_toArray, List.set_cons_zero, List.set_cons_succ]
          refine restS_take (i := 7) S0.out rfl (by kernel_rfl) (by kernel_rfl) (by kernel_rfl) (by rfl) (fun v hv => by go_simp; try with_reducible rfl) ?_
          try simp only [Act.put, List.setIfInBounds_toArray, List.set_cons_zero, List.set_cons_succ]
          refine restS_take (i := 8) S0.out rfl (by kernel_rfl) (by kernel_rfl) (by kernel_rfl) (by rfl) (fun v hv => by go_simp; try with_reducible rfl) ?_
          try simp only [Act.put, List.setIfInBounds_toArray, List.set_cons_zero, List.set_cons_succ]
          refine restS_lone (i := 4) rfl (by kernel_rfl) (by rfl) (fun K hK => ?_)
          go_simp
          refine hK.out _ _ S0.out ?_
          clear hK K
          try simp only [Act.put, List.setIfInBounds_toArray, List.set_cons_zero, List.set_cons_succ]
          refine restS_lone (i := 9) rfl (by kernel_rfl) (by rfl) (fun K hK => ?_)
          go_simp
          refine (refWithout_any (A := Av) (l := u) (by obtain ⟨_, _, _, _, _, _, _, _, r1, _⟩ := (HV.out.grow GD.out).cells; exact r1) HNU.out.symm (by have := HUl.out; have := HNU.out; omega) x).mono ?_
          rintro e w2 ⟨A9, c9, rfl, ho9, hg9⟩
          have S2 := Lib.hid (show w2.cell? ⟨b, off + j, none⟩ = some (.int .i64 x) by rw [hg9.cell (p := ⟨b, off + j, none⟩) (Nat.lt_of_lt_of_le hb GD.out.size), S0.out])
          refine hK.out _ _ S2.out ?_
          clear hK K
          try simp only [Act.put, List.setIfInBounds_toArray, List.set_cons_zero, List.set_cons_succ]
          obtain ⟨n9, hn9⟩ : ∃ n9, n9 = (wo u x).length := ⟨_, rfl⟩
          rw [← hn9]
          obtain ⟨su1, su2, su3⟩ := HV.out.setUsed (GD.out.trans hg9) (ho9.less GD.out.size) hn9.symm
          have U := Lib.hid (SOd.step (s1 := { s with used := u, going := g }) HFo.out HCh.out ⟨A9, Ah, su1, su2, su3⟩)
          have R2 := Lib.hid (HV.out.grow (GD.out.trans hg9))
          have hf9 : w2.frozen? ⟨R, 2, none⟩ = false := by obtain ⟨_, _, hR, _⟩ := R2.out.ex; exact frozen_of_row w2 R 2 _ _ hR
          have hc9 : ∃ u, w2.cell? ⟨R, 2, none⟩ = some u := by obtain ⟨_, _, hR, _⟩ := R2.out.ex; exact ⟨_, cell_of_row w2 R 2 _ _ (0, 0) hR⟩
          obtain ⟨u9, hc9⟩ := hc9
          clear su1 su2 su3 ho9 hg9 hn9
          refine restS_take (i := 10) S2.out rfl (by kernel_rfl) (by kernel_rfl) (by kernel_rfl) (by rfl) (fun v hv => by go_simp; try with_reducible rfl) ?_
          try simp only [Act.put, List.setIfInBounds_toArray, List.set_cons_zero, List.set_cons_succ]
          refine restS_take (i := 11) S2.out rfl (by kernel_rfl) (by kernel_rfl) (by kernel_rfl) (by rfl) (fun v hv => by go_simp; try with_reducible rfl) ?_
          try simp only [Act.put, List.setIfInBounds_toArray, List.set_cons_zero, List.set_cons_succ]
          refine restS_lone (i := 12) rfl (by kernel_rfl) (by rfl) (fun K hK => ?_)
          go_simp
          refine hK.out _ _ ((World.cell?_of_block (a := ⟨b, off + j, none⟩) (heap_setCell_other w2 ⟨R, 2, none⟩ b _ hbR)).trans S2.out) ?_
          clear hK K
          try simp only [Act.put, List.setIfInBounds_toArray, List.set_cons_zero, List.set_cons_succ]
          refine restS_done (by kernel_rfl) ?_
          obtain ⟨Ax, Ay, v3, f3, c3⟩ := U.out
          obtain ⟨w3, hw3⟩ : ∃ w3, w3 = w2.setCell ⟨R, 2, none⟩ (.slice A9 n9 c9) := ⟨_, rfl⟩
          have S3 := Lib.hid (show w3.drew.cell? ⟨b, off + j, none⟩ = some (.int .i64 x) by
            rw [hw3]; exact (World.cell?_of_block (a := ⟨b, off + j, none⟩) (heap_setCell_other w2 ⟨R, 2, none⟩ b _ hbR)).trans S2.out)
          rw [← hw3] at v3 c3
          have V3 := Lib.hid (v3.grow (w' := w3.drew) (Below.refl _ w3).drew)
          have F3 := Lib.hid f3
          have C3 := Lib.hid (Ch.drew c3)
          have hnb : ¬ SvF R Ax Ay b := fun e => by
            rcases f3 b e with h4 | h4
            · exact hbF h4
            · omega
          have hw2 := hw3
          rw [← hw3]
          clear hw3 hw2 v3 f3 c3 U R2 S2 S0 GD q2d hf9 hc9 HV HFo HCh
          obtain ⟨i0, hi0, hz0, hz01, hz02⟩ := info_parts infoZ
          go_wp2_with fail
          refine restS_begin (fun v : World => v.cell? ⟨b, off + j, none⟩ = some (.int .i64 x)) (by kernel_rfl) ?_
          generalize w3.drew = wd at S3 V3 C3 ⊢
          obtain ⟨cu3, cg3, hR3, o1, o2⟩ := V3.out.ex
          have O3 := Lib.hid o2
          obtain ⟨ng, hng⟩ : ∃ x, x = g.length := ⟨_, rfl⟩
          have HNG := Lib.hid hng
          have q3d : wd.cell? ⟨R, 3, none⟩ = some (.slice Ay ng cg3) := by rw [hng]; exact cell_of_row wd R 3 _ _ (0, 0) hR3
          have hbase3 : base ≤ wd.heap.size := by have := V3.out.bR; have := (V3.out.lt R (.inl rfl)).2; omega
          clear hR3 o1 o2 hng
          refine restS_take (i := 0) S3.out rfl (by kernel_rfl) (by kernel_rfl) (by kernel_rfl) (by rfl) (fun v hv => by go_simp; try with_reducible rfl) ?_
          try simp only [Act.put, List.setIfInBounds_toArray, List.set_cons_zero, List.set_cons_succ]
          refine restS_take (i := 1) S3.out rfl (by kernel_rfl) (by kernel_rfl) (by kernel_rfl) (by rfl) (fun v hv => by go_simp; try with_reducible rfl) ?_
          try simp only [Act.put, List.setIfInBounds_toArray, List.set_cons_zero, List.set_cons_succ]
          refine restS_take (i := 2) S3.out rfl (by kernel_rfl) (by kernel_rfl) (by kernel_rfl) (by rfl) (fun v hv => by go_simp; try with_reducible rfl) ?_
          try simp only [Act.put, List.setIfInBounds_toArray, List.set_cons_zero, List.set_cons_succ]
          refine restS_take (i := 3) S3.out rfl (by kernel_rfl) (by kernel_rfl) (by kernel_rfl) (by rfl) (fun v hv => by go_simp; try with_reducible rfl) ?_
          try simp only [Act.put, List.setIfInBounds_toArray, List.set_cons_zero, List.set_cons_succ]
          refine restS_take (i := 5) S3.out rfl (by kernel_rfl) (by kernel_rfl) (by kernel_rfl) (by rfl) (fun v hv => by go_simp; try with_reducible rfl) ?_
          try simp only [Act.put, List.setIfInBounds_toArray, List.set_cons_zero, List.set_cons_succ]
          refine restS_take (i := 6) S3.out rfl (by kernel_rfl) (by kernel_rfl) (by kernel_rfl) (by rfl) (fun v hv => by go_simp; try with_reducible rfl) ?_
          try simp only [Act.put, List.setIfInBounds_toArray, List.set_cons_zero, List.set_cons_succ]
          refine restS_take (i := 7) S3.out rfl (by kernel_rfl) (by kernel_rfl) (by kernel_rfl) (by rfl) (fun v hv => by go_simp; try with_reducible rfl) ?_
          try simp only [Act.put, List.setIfInBounds_toArray, List.set_cons_zero, List.set_cons_succ]
          refine restS_take (i := 8) S3.out rfl (by kernel_rfl) (by kernel_rfl) (by kernel_rfl) (by rfl) (fun v hv => by go_simp; try with_reducible rfl) ?_
          try simp only [Act.put, List.setIfInBounds_toArray, List.set_cons_zero, List.set_cons_succ]
          refine restS_two (i := 4) (j := 9) rfl rfl (by kernel_rfl) (by rfl) (by rfl) (fun K hK => ?_) (fun K hK => ?_)
          · go_simp
            refine hK.out _ _ S3.out ?_
            clear hK K
            try simp only [Act.put, List.setIfInBounds_toArray, List.set_cons_zero, List.set_cons_succ]
            refine restS_lone (i := 9) rfl (by kernel_rfl) (by rfl) (fun K hK => ?_)
            go_simp
            refine hK.out _ _ ((Below.cell (alloc_below wd _) (p := ⟨b, off + j, none⟩) (Nat.lt_of_lt_of_le hbw C3.out.size)).trans S3.out) ?_
            clear hK K
            try simp only [Act.put, List.setIfInBounds_toArray, List.set_cons_zero, List.set_cons_succ]
            refine restS_lone (i := 10) rfl (by kernel_rfl) (by rfl) (fun K hK => ?_)
            refine wp_appOw (e := 3) Try.underlying30 hi0 hz0 hz01 hz02 rfl (by decide) (.tmp 49) (.tmp 54) rfl (n := ng) (vs := g.map zv) (u := zv x) (by rw [List.length_map]; exact HNG.out.symm) rfl (OwZ.grow O3.out (alloc_below wd _)) rfl (cell_of_row _ _ 0 _ _ (0, 0) (heap_alloc_new wd _)) rfl (by have := HGl.out; have := HNG.out; omega) (by have := (alloc_below wd (.cells #[.int .i64 x] 3)).size; omega) ?_
            intro A8 c8 w8 ho8 hg8 hm8
            have hsz3 := (alloc_below wd (.cells #[.int .i64 x] 3)).size
            have C8 := Lib.hid (chGrownBy (F := SvF R Ax Ay) (Ch.grown (alloc_below wd (.cells #[.int .i64 x] 3))) hg8 (fun k hk => .inl (by
              obtain ⟨y, hy, rfl⟩ := own_blk hk.symm
              exact .inr (.inr ⟨y, hy, rfl⟩))))
            have hk8 : ∀ k, SvF R Ax Ay k → (∀ x, Ay = some x → x.block ≠ k) → w8.heap[k]? = wd.heap[k]? := fun k hk hne => by
              have hlt := (V3.out.lt k hk).2
              refine (hg8.block k (by omega) (fun e => ?_)).trans ((alloc_below wd (.cells #[.int .i64 x] 3)).block k hlt)
              obtain ⟨y, hy, hyk⟩ := own_blk e
              exact hne y hy hyk
            have M8 : ∀ x, A8 = some x → Ay = some x ∨ wd.heap.size ≤ x.block := fun x hx => (moved_or hm8 x hx).imp id (fun h => by omega)
            obtain ⟨su1, su2, su3⟩ := V3.out.setGoing hk8 C8.out (A' := A8) (c' := c8) (n' := ng + 1) (l' := g ++ [x]) (by unfold OwZ; rw [List.map_append]; exact ho8) M8 (by rw [List.length_append, HNG.out]; rfl)
            have U8 := Lib.hid (SOd.step (s1 := { s with used := wo u x, going := g }) (s2 := { s with used := wo u x, going := g ++ [x] }) F3.out C3.out ⟨Ax, A8, su1, su2, su3⟩)
            have S8 := Lib.hid (show w8.cell? ⟨b, off + j, none⟩ = some (.int .i64 x) from (C8.out.cell (p := ⟨b, off + j, none⟩) (Nat.lt_of_lt_of_le hbw C3.out.size) hnb).trans S3.out)
            have y1 : w8.cell? ⟨R, 3, none⟩ = some (.slice Ay ng cg3) := (World.cell?_of_block (a := ⟨R, 3, none⟩) (hk8 R (.inl rfl) (fun x hx => V3.out.ng x hx))).trans q3d
            have y2 : w8.frozen? ⟨R, 3, none⟩ = false := (World.frozen?_of_block (a := ⟨R, 3, none⟩) (hk8 R (.inl rfl) (fun x hx => V3.out.ng x hx))).trans (by obtain ⟨_, _, hR, _⟩ := V3.out.ex; exact frozen_of_row wd R 3 _ _ hR)
            refine hK.out _ _ S8.out ?_
            clear hK K ho8 hg8 hm8 hk8 su1 su2 su3 M8 hsz3
            try simp only [Act.put, List.setIfInBounds_toArray, List.set_cons_zero, List.set_cons_succ]
            refine restS_take (i := 11) S8.out rfl (by kernel_rfl) (by kernel_rfl) (by kernel_rfl) (by rfl) (fun v hv => by go_simp; try with_reducible rfl) ?_
            try simp only [Act.put, List.setIfInBounds_toArray, List.set_cons_zero, List.set_cons_succ]
            refine restS_take (i := 12) S8.out rfl (by kernel_rfl) (by kernel_rfl) (by kernel_rfl) (by rfl) (fun v hv => by go_simp; try with_reducible rfl) ?_
            try simp only [Act.put, List.setIfInBounds_toArray, List.set_cons_zero, List.set_cons_succ]
            refine restS_lone (i := 13) rfl (by kernel_rfl) (by rfl) (fun K hK => ?_)
            go_simp
            refine hK.out _ _ ((World.cell?_of_block (a := ⟨b, off + j, none⟩) (heap_setCell_other w8 ⟨R, 3, none⟩ b _ hbR)).trans S8.out) ?_
            clear hK K
            try simp only [Act.put, List.setIfInBounds_toArray, List.set_cons_zero, List.set_cons_succ]
            refine restS_done (by kernel_rfl) ?_
            clear y1 y2
            go_wp2
            exact ⟨⟨j + 1, by simp, by omega, by rw [HFd.out, HFe.out]; exact U8.out⟩, by simp [intOf]; omega⟩
          · go_simp
            refine hK.out _ _ ((Below.cell (alloc_below wd _) (p := ⟨b, off + j, none⟩) (Nat.lt_of_lt_of_le hbw C3.out.size)).trans S3.out) ?_
            clear hK K
            try simp only [Act.put, List.setIfInBounds_toArray, List.set_cons_zero, List.set_cons_succ]
            have q3e := (Below.cell (alloc_below wd (.cells #[.int .i64 x] 3)) (p := ⟨R, 3, none⟩) ((V3.out.lt R (.inl rfl)).2)).trans q3d
            refine restS_lone (i := 4) rfl (by kernel_rfl) (by rfl) (fun K hK => ?_)
            go_simp
            refine hK.out _ _ ((Below.cell (alloc_below wd _) (p := ⟨b, off + j, none⟩) (Nat.lt_of_lt_of_le hbw C3.out.size)).trans S3.out) ?_
            clear hK K q3e
            try simp only [Act.put, List.setIfInBounds_toArray, List.set_cons_zero, List.set_cons_succ]
            refine restS_lone (i := 10) rfl (by kernel_rfl) (by rfl) (fun K hK => ?_)
            refine wp_appOw (e := 3) Try.underlying30 hi0 hz0 hz01 hz02 rfl (by decide) (.tmp 49) (.tmp 54) rfl (n := ng) (vs := g.map zv) (u := zv x) (by rw [List.length_map]; exact HNG.out.symm) rfl (OwZ.grow O3.out (alloc_below wd _)) rfl (cell_of_row _ _ 0 _ _ (0, 0) (heap_alloc_new wd _)) rfl (by have := HGl.out; have := HNG.out; omega) (by have := (alloc_below wd (.cells #[.int .i64 x] 3)).size; omega) ?_
            intro A8 c8 w8 ho8 hg8 hm8
            have hsz3 := (alloc_below wd (.cells #[.int .i64 x] 3)).size
            have C8 := Lib.hid (chGrownBy (F := SvF R Ax Ay) (Ch.grown (alloc_below wd (.cells #[.int .i64 x] 3))) hg8 (fun k hk => .inl (by
              obtain ⟨y, hy, rfl⟩ := own_blk hk.symm
              exact .inr (.inr ⟨y, hy, rfl⟩))))
            have hk8 : ∀ k, SvF R Ax Ay k → (∀ x, Ay = some x → x.block ≠ k) → w8.heap[k]? = wd.heap[k]? := fun k hk hne => by
              have hlt := (V3.out.lt k hk).2
              refine (hg8.block k (by omega) (fun e => ?_)).trans ((alloc_below wd (.cells #[.int .i64 x] 3)).block k hlt)
              obtain ⟨y, hy, hyk⟩ := own_blk e
              exact hne y hy hyk
            have M8 : ∀ x, A8 = some x → Ay = some x ∨ wd.heap.size ≤ x.block := fun x hx => (moved_or hm8 x hx).imp id (fun h => by omega)
            obtain ⟨su1, su2, su3⟩ := V3.out.setGoing hk8 C8.out (A' := A8) (c' := c8) (n' := ng + 1) (l' := g ++ [x]) (by unfold OwZ; rw [List.map_append]; exact ho8) M8 (by rw [List.length_append, HNG.out]; rfl)
            have U8 := Lib.hid (SOd.step (s1 := { s with used := wo u x, going := g }) (s2 := { s with used := wo u x, going := g ++ [x] }) F3.out C3.out ⟨Ax, A8, su1, su2, su3⟩)
            have S8 := Lib.hid (show w8.cell? ⟨b, off + j, none⟩ = some (.int .i64 x) from (C8.out.cell (p := ⟨b, off + j, none⟩) (Nat.lt_of_lt_of_le hbw C3.out.size) hnb).trans S3.out)
            have y1 : w8.cell? ⟨R, 3, none⟩ = some (.slice Ay ng cg3) := (World.cell?_of_block (a := ⟨R, 3, none⟩) (hk8 R (.inl rfl) (fun x hx => V3.out.ng x hx))).trans q3d
            have y2 : w8.frozen? ⟨R, 3, none⟩ = false := (World.frozen?_of_block (a := ⟨R, 3, none⟩) (hk8 R (.inl rfl) (fun x hx => V3.out.ng x hx))).trans (by obtain ⟨_, _, hR, _⟩ := V3.out.ex; exact frozen_of_row wd R 3 _ _ hR)
            refine hK.out _ _ S8.out ?_
            clear hK K ho8 hg8 hm8 hk8 su1 su2 su3 M8 hsz3
            try simp only [Act.put, List.setIfInBounds_toArray, List.set_cons_zero, List.set_cons_succ]
            refine restS_take (i := 11) S8.out rfl (by kernel_rfl) (by kernel_rfl) (by kernel_rfl) (by rfl) (fun v hv => by go_simp; try with_reducible rfl) ?_
            try simp only [Act.put, List.setIfInBounds_toArray, List.set_cons_zero, List.set_cons_succ]
            refine restS_take (i := 12) S8.out rfl (by kernel_rfl) (by kernel_rfl) (by kernel_rfl) (by rfl) (fun v hv => by go_simp; try with_reducible rfl) ?_
            try simp only [Act.put, List.setIfInBounds_toArray, List.set_cons_zero, List.set_cons_succ]
            refine restS_lone (i := 13) rfl (by kernel_rfl) (by rfl) (fun K hK => ?_)
            go_simp
            refine hK.out _ _ ((World.cell?_of_block (a := ⟨b, off + j, none⟩) (heap_setCell_other w8 ⟨R, 3, none⟩ b _ hbR)).trans S8.out) ?_
            clear hK K
            try simp only [Act.put, List.setIfInBounds_toArray, List.set_cons_zero, List.set_cons_succ]
            refine restS_done (by kernel_rfl) ?_
            clear y1 y2
            go_wp2
            exact ⟨⟨j + 1, by simp, by omega, by rw [HFd.out, HFe.out]; exact U8.out⟩, by simp [intOf]; omega⟩
        · have bj : ¬ ((j : Int) < (n : Int)) := by omega
          have HS2 := Lib.hid (show SOd base R w (SvF R Au Ag) { s with used := l.foldl wo s.used, going := s.going ++ l } wr by
            have := HS.out
            rw [List.take_of_length_le (by rw [HN.out]; omega)] at this
            exact this)
          clear HS
          go_wp2
          go_ret
          rw [HE.out]
          exact ⟨rfl, HS2.out⟩
end
end Go.Proofs.Ytdeojgdjjckoeaa.S15
