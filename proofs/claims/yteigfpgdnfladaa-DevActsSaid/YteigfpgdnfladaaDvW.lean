/-
  Contract of the reference's device: Write.
-/
import Derived.Test.YteigfpgdnfladaaDvT
namespace Go.Proofs.Yteigfpgdnfladaa.S13
open Cf
open Go.RowKit
set_option linter.unusedVariables false
set_option linter.unusedSimpArgs false
theorem restS_two {P : Program} {ops : Array Oper} {Q : Exit → Act → World → Prop} {S : World → Prop} {i j : Nat} {o p : Oper} {fuel : Nat} {listed : Array Bool} {a : Act} {w : World} (hi : ops[i]? = some o) (hj : ops[j]? = some p) (hr : Region.ready .any ops listed = [i, j]) (hwi : Region.wanted o (yielded ops a.tmps) = true) (hwj : Region.wanted p (yielded ops a.tmps) = true)
    (h : ∀ K : Act → World → Prop, Shut (∀ a' w', S w' → RestS P ops Q S fuel (listed.setIfInBounds i true) a' w' → K a' w') → Oper.wp P o a w K (NoPanic Q))
    (h2 : ∀ K : Act → World → Prop, Shut (∀ a' w', S w' → RestS P ops Q S fuel (listed.setIfInBounds j true) a' w' → K a' w') → Oper.wp P p a w K (NoPanic Q)) : RestS P ops Q S (fuel + 1) listed a w := by
  refine wpAnyH_all hr (by simp) fun x hx => ?_
  simp only [List.mem_cons, List.mem_singleton, List.not_mem_nil, or_false] at hx
  rcases hx with rfl | rfl
  · unfold wpOp
    simp only [hi, hwi, if_true]
    exact .inl (h _ fun a' w' hg hrest => ⟨hg, hrest⟩)
  · unfold wpOp
    simp only [hj, hwj, if_true]
    exact .inl (h2 _ fun a' w' hg hrest => ⟨hg, hrest⟩)
theorem wp_appOw {P : Program} {w : World} {base : Nat} {e t : TypeId} {i0 : TypeInfo} {z : Value} {bytes : Nat} (ht : P.underlying t = some (.slice e)) (hi : P.info? e = some i0) (hz : i0.zero = some z) (hz1 : i0.size = 1) (hz2 : i0.bytes = bytes) (hzc : z.cells.size = 1) (hb16 : bytes ≤ 64)
    {A : Option Addr} {c n c2 : Nat} {ad : Addr} {vs : List Value} {u : Value} {o : Oper} {a : Act} {K : Act → World → Prop} {Q : Exit → Act → World → Prop} (s x : Operand) (ho : o.op = .call { callee := .builtin .append, args := #[s, x], argTypes := #[t, t] })
    (hn : vs.length = n) (hs : a.eval s = .slice A n c) (h : Ow w base e A c vs) (hx : a.eval x = .slice (some ad) 1 c2) (h2 : w.cell? ad = some u) (hu : u.oneCell' = true) (hl : n ≤ 100000) (hbase : base ≤ w.heap.size)
    (hk : ∀ A' c' w', Ow w' base e A' c' (vs ++ [u]) → w.grownBy w' (Value.slice A n c).ownBlock → Moved w A A' → K (a.put o.dst (.slice A' (n + 1) c')) w') : Oper.wp P o a w K Q := by
  subst hn
  obtain ⟨A', c', w', hrun, hown', hg, hm⟩ := app_moved (P := P) (ty := o.type) ht hi hz hz1 hz2 hzc (by omega) h ad 1 c2 [u] (by omega) (by simp) (fun j v hv => by
    match j, hv with
    | 0, hv => simp at hv; subst hv; simpa [Addr.add] using h2) (fun v hv => by simp at hv; subst hv; exact hu) (by unfold maxLen; omega) (by
      have : (vs.length + 1) * bytes ≤ 100001 * 64 := Nat.mul_le_mul (by omega) hb16
      omega) hbase
  unfold Oper.wp execOp
  simp only [ho, resolve, invoke, builtin, Sem.run_bind, Sem.run_pure, Result.andThen_ok, List.map_toArray, List.map_cons, List.map_nil, hs, hx, hrun]
  refine hk A' c' w' ?_ hg hm
  unfold Ow
  rw [List.length_append]
  exact hown'
theorem chGrownBy {F : Nat → Prop} {w w' w2 : World} {row : Option Nat} (h : Ch F w w') (hg : w'.grownBy w2 row) (hF : ∀ k, row = some k → F k ∨ w.heap.size ≤ k) : Ch F w w2 where
  os := hg.os.trans h.os
  tape := hg.tape.trans h.tape
  output := hg.output.trans h.output
  size := Nat.le_trans h.size hg.size
  block := fun k hk hf => (hg.block k (Nat.lt_of_lt_of_le hk h.size) (fun e => by rcases hF k e.symm with h | h; exact hf h; omega)).trans (h.block k hk hf)
section
variable {base R : Nat} {Ak Aa Aw : Option Addr} {st : Dv} {w : World} {i : Nat}
set_option maxHeartbeats 8000000 in
theorem refWrite_any (h : Rv w base R Ak Aa Aw (raw st)) (hk : Ok st i) (hi : i ≤ 1000) (hl : st.kept.length ≤ 70000) (n : Int) (A2 : Option Addr) (n2 c2 : Nat) (b : List UInt8) (hb : Rd w w.heap.size A2 b) (hn2 : b.length = n2) (hn2b : n2 ≤ 1000) (hoff : ∀ x, A2 = some x → b ≠ [] → ¬ RV R Ak Aa Aw x.block) :
    Calls Try.prog 12 #[.pointer (some ⟨R, 0, none⟩), .int .i64 n, .slice A2 n2 c2] w fun e w' => e = .returned (.int .i64 (dvWrite st n b).1) ∧ Od base R w (RV R Ak Aa Aw) (dvWrite st n b).2 w' := by
  have H := Lib.hid h
  have HK := Lib.hid hk
  have HB := Lib.hid hb
  have HBl := Lib.hid hn2
  have HOff := Lib.hid hoff
  obtain ⟨ck, ca, cw, l1, l2, l3, q0, q1, q2, q3, q4⟩ := h.cells
  have hc0 : w.cell? ⟨R, 0, none⟩ = some (.slice Ak st.kept.length ck) := q0
  clear h hk hb hoff l1 l2 l3 q0 q1 q2 q3 q4
  by_cases h1 : n < 0
  · have HE := Lib.hid (show dvWrite st n b = (2, st) by unfold dvWrite; rw [if_pos (by unfold inR; omega)])
    clear hn2
    go_enter Try.func12, Try.ntmps12
    go_wp2
    go_ret
    rw [HE.out]
    exact ⟨rfl, od_same H.out (Ch.refl _ _)⟩
  by_cases h2 : n ≥ (st.kept.length : Int)
  · have HE := Lib.hid (show dvWrite st n b = (2, st) by unfold dvWrite; rw [if_pos (by unfold inR; omega)])
    clear hn2
    go_enter Try.func12, Try.ntmps12
    go_wp2
    go_ret
    rw [HE.out]
    exact ⟨rfl, od_same H.out (Ch.refl _ _)⟩
  by_cases h3 : (n2 : Int) > 512
  · have HE := Lib.hid (show dvWrite st n b = (2, st) by unfold dvWrite; rw [if_pos (.inr (by omega))])
    clear hn2
    go_enter Try.func12, Try.ntmps12
    go_wp2
    go_ret
    rw [HE.out]
    exact ⟨rfl, od_same H.out (Ch.refl _ _)⟩
  obtain ⟨t, rfl⟩ : ∃ t : Nat, n = (t : Int) := ⟨n.toNat, by omega⟩
  have ht : t < st.kept.length := by omega
  have bt : (t : Int) < (st.kept.length : Int) := by omega
  have hbl5 : n2 ≤ 512 := by omega
  clear hn2
  go_enter Try.func12, Try.ntmps12
  go_wp2_with fail
  refine (refOn_any H.out HK.out).mono ?_
  rintro e w1 ⟨rfl, hz, hc⟩
  have HZ := Lib.hid hz
  have HC := Lib.hid hc
  clear hz hc
  cases hon : isOn st with
  | false =>
    have HE := Lib.hid (show dvWrite st (t : Int) b = (10, st) by
      unfold dvWrite
      rw [if_neg (by unfold inR; have := HBl.out; omega), hon]
      rfl)
    have HT := Lib.hid (tick_off hon)
    clear hon
    go_wp2
    go_ret
    rw [HE.out]
    exact ⟨rfl, od_same (HT.out ▸ HZ.out) HC.out⟩
  | true =>
    obtain ⟨s, hs⟩ : ∃ s, s = tick st := ⟨_, rfl⟩
    have HKt := Lib.hid HK.out.tick
    have HE := Lib.hid (show dvWrite st (t : Int) b = (0, { s with pend := s.pend ++ [(t, pad512 b)] }) by
      unfold dvWrite
      rw [if_neg (by unfold inR; have := HBl.out; omega), hon, hs, tick_pend]
      rfl)
    rw [← hs] at HZ HKt
    clear hs HK hon
    obtain ⟨m, hm⟩ : ∃ m, m = s.pend.length := ⟨_, rfl⟩
    have HM := Lib.hid hm
    have hml : m ≤ 1000 := by have := HKt.out.few; omega
    clear hm
    obtain ⟨dk, da, dw, hR0, ok0, oa0, ow0⟩ := HZ.out.ex
    have OA := Lib.hid oa0
    have hc1 : w1.cell? ⟨R, 1, none⟩ = some (.slice Aa m da) := by rw [HM.out]; have := cell_of_row w1 R 1 _ _ (0, 0) hR0; simpa [DzC, raw] using this
    have hbw : base ≤ w1.heap.size := by have := (HZ.out.lt R (.inl rfl)); omega
    clear hR0 ok0 oa0 ow0
    obtain ⟨iI, hiI, hzI, hsI, hbI⟩ := info_parts infoI
    obtain ⟨iS, hiS, hzS, hsS, hbS⟩ := info_parts infoS
    go_wp2_with (first
      | (at_builtin
         refine wpList_appOw (t := 32) rfl hiI hzI hsI hbI rfl (by decide) rfl (.tmp 30) (.tmp 32) rfl (n := m) (by rw [List.length_map, HM.out]; simp [raw]) rfl (owGrow OA.out (alloc_below w1 _)) rfl (cellNew w1 _ _) rfl (by omega) (by have := (alloc_below w1 (.cells #[.int .i64 (t : Int)] 3)).size; omega) ?_
         intro A8 c8 w8 ho8 hg8 hm8
         have hsz := (alloc_below w1 (.cells #[.int .i64 (t : Int)] 3)).size
         have O8 := Lib.hid ho8
         have M8 := Lib.hid (show ∀ x, A8 = some x → Aa = some x ∨ w1.heap.size ≤ x.block from fun x hx => (moved_or hm8 x hx).imp id (fun h => by omega))
         have C8 := Lib.hid (chGrownBy (Ch.trans HC.out (Ch.grown (alloc_below w1 (.cells #[.int .i64 (t : Int)] 3)))) hg8 (fun k hk => by
           obtain ⟨x, hx, rfl⟩ := own_blk hk.symm
           exact .inl (.inr (.inr (.inl ⟨x, hx, rfl⟩)))))
         have hk8 : ∀ k, RV R Ak Aa Aw k → (∀ x, Aa = some x → x.block ≠ k) → w8.heap[k]? = w1.heap[k]? := fun k hk hne => by
           have hlt := (HZ.out.lt k hk).2
           refine (hg8.block k (by omega) (fun e => ?_)).trans ((alloc_below w1 (.cells #[.int .i64 (t : Int)] 3)).block k hlt)
           obtain ⟨x, hx, hxk⟩ := own_blk e
           exact hne x hx hxk
         have X8 := Lib.hid (HZ.out.putA (w' := w8) (Aa' := A8) (ca' := c8) (na := m + 1) (as' := s.pend.map (·.1) ++ [t]) (by rw [List.length_append, List.length_map, HM.out]; rfl) hk8 (by rw [List.map_append]; exact O8.out) M8.out)
         have Y8 := Lib.hid (show w8.cell? ⟨R, 1, none⟩ = some (.slice Aa m da) ∧ w8.frozen? ⟨R, 1, none⟩ = false from
           ⟨(World.cell?_of_block (a := ⟨R, 1, none⟩) (hk8 R (.inl rfl) (fun x hx => HZ.out.na x hx))).trans hc1, (World.frozen?_of_block (a := ⟨R, 1, none⟩) (hk8 R (.inl rfl) (fun x hx => HZ.out.na x hx))).trans (HZ.out.frozen 1)⟩)
         have y1 := Y8.out.1
         have y2 := Y8.out.2
         clear ho8 hg8 hm8 hk8))
    have CA := Lib.hid (Ch.setCell C8.out (p := ⟨R, 1, none⟩) (.inl (.inl rfl)) (.slice A8 (m + 1) c8))
    have HW1 := Lib.hid HC.out.size
    generalize w8.setCell ⟨R, 1, none⟩ (.slice A8 (m + 1) c8) = wa at X8 CA ⊢
    clear O8 Y8 y1 y2 C8 HZ HC OA hc1 hbw hsz
    have GD := Lib.hid (show Grown wa wa.drew from (Below.refl _ wa).drew)
    have X := Lib.hid (X8.out.grow GD.out)
    have CW := Lib.hid (Ch.trans CA.out (Ch.grown GD.out))
    generalize hwd : wa.drew = wd at X CW
    have hRlt := (X.out.lt R (.inl rfl))
    obtain ⟨ek, ea, ew, hR1, ok1, oa1, ow1⟩ := X.out.ex
    have hq2 : wd.cell? ⟨R, 2, none⟩ = some (.slice Aw m ew) := by rw [HM.out]; have := cell_of_row wd R 2 _ _ (0, 0) hR1; simpa [DzC, raw] using this
    have B1 := Lib.hid (rd_ch13 HB.out CW.out HOff.out)
    obtain ⟨SB, hSB⟩ : ∃ S : ByteArray, S = ⟨b.toArray⟩ := ⟨_, rfl⟩
    have HSB := Lib.hid hSB
    clear hSB hR1 ok1 oa1 GD X8 CA
    obtain ⟨z, hz⟩ : ∃ z, z = 512 - n2 := ⟨_, rfl⟩
    have hz2 : (512 : Int) - (n2 : Int) = (z : Int) := by omega
    have HPd := Lib.hid (show pad512 b = b ++ List.replicate z 0 by unfold pad512; rw [HBl.out, hz])
    have hzle : z ≤ 512 := by omega
    clear hz
    have GA := Lib.hid (alloc_below wd (.cells (bvs (List.replicate z 0)).toArray 5))
    have RA := Lib.hid ((Row.new wd (List.replicate z (0 : UInt8))).rd (B := (wd.alloc (.cells (bvs (List.replicate z 0)).toArray 5)).heap.size) (by simp))
    have hmk := mk22 z (by omega) wd
    obtain ⟨gz, hgz⟩ : ∃ g, g = wd.heap.size := ⟨_, rfl⟩
    have Hgz := Lib.hid (show ∀ k, RV R Ak A8 Aw k → k ≠ gz from fun k hk e => by have := (X.out.lt k hk).2; omega)
    rw [← hgz] at RA hmk
    clear hgz
    generalize wd.alloc _ = w2 at GA RA hmk
    have X2 := Lib.hid (X.out.grow GA.out)
    have OW2 := Lib.hid (owGrow ow1 GA.out)
    have CW2 := Lib.hid (Ch.trans CW.out (Ch.grown GA.out))
    have B2 := Lib.hid (B1.out.grow GA.out)
    have hq22 : w2.cell? ⟨R, 2, none⟩ = some (.slice Aw m ew) := (GA.out.cell (p := ⟨R, 2, none⟩) hRlt.2).trans hq2
    have hq23 : ∀ o : Obj, (w2.alloc o).cell? ⟨R, 2, none⟩ = some (.slice Aw m ew) := fun o => ((alloc_below w2 o).cell (p := ⟨R, 2, none⟩) (lt_of_cell hq22)).trans hq22
    have HOf2 := Lib.hid (show ∀ x, A2 = some x → b ≠ [] → ¬ RV R Ak A8 Aw x.block from fun x hx hl hr => by
      rcases hr with h | h | ⟨y, hy, hyx⟩ | h
      · exact HOff.out x hx hl (.inl h)
      · exact HOff.out x hx hl (.inr (.inl h))
      · rcases M8.out y hy with h | h
        · exact HOff.out x hx hl (.inr (.inr (.inl ⟨y, h, hyx⟩)))
        · rcases HB.out with e | ⟨b5, o5, e, hb5, _⟩
          · exact hl e
          · rw [e] at hx; simp only [Option.some.injEq] at hx; subst hx; simp only at hyx; have := HW1.out; omega
      · exact HOff.out x hx hl (.inr (.inr (.inr h))))
    have hcb : ∀ v, Rd v v.heap.size A2 b → (convert 31 9 (.slice A2 n2 c2)).run Try.prog v = .ok (.string SB) v := fun v h => by
      have := conv h c2
      rw [HBl.out] at this
      rw [HSB.out]; exact this
    obtain ⟨SZ, hSZ⟩ : ∃ S : ByteArray, S = ⟨(List.replicate z (0 : UInt8)).toArray⟩ := ⟨_, rfl⟩
    have HSZ := Lib.hid hSZ
    clear hSZ
    have HS := Lib.hid (show ∀ v, Ch (RV R Ak A8 Aw) w2 v → (convert 31 9 (.slice A2 n2 c2)).run Try.prog v = .ok (.string SB) v ∧ (convert 31 9 (.slice (some ⟨gz, 0, none⟩) z z)).run Try.prog v = .ok (.string SZ) v from fun v hv => by
      refine ⟨hcb v (rd_ch13 B2.out hv HOf2.out), ?_⟩
      have h5 : Rd v v.heap.size (some ⟨gz, 0, none⟩) (List.replicate z 0) := rd_ch13 RA.out hv (fun x hx _ hf => by
        simp only [Option.some.injEq] at hx
        subst hx
        exact Hgz.out _ hf rfl)
      have := conv h5 z
      rw [List.length_replicate] at this
      rw [HSZ.out]; exact this)
    have SV := Lib.hid (hcb wd B1.out)
    clear hcb
    obtain ⟨PD, hPD⟩ : ∃ P : List UInt8, P = pad512 b := ⟨_, rfl⟩
    have HPD := Lib.hid hPD
    have hadd : ∀ V : World, (Op.stringOp .add SB SZ).run Try.prog V = .ok (.string ⟨PD.toArray⟩) V := fun V => by
      rw [hPD, HPd.out, HSB.out, HSZ.out]
      exact addS b (List.replicate z 0) (by rw [HBl.out, List.length_replicate]; omega) V
    clear hPD
    have hml2 := OW2.out
    have HLn := Lib.hid (show (((({ raw s with at_ := s.pend.map (·.1) ++ [t] } : Rs).what).map sv).length = m) by rw [List.length_map, HM.out]; simp [raw])
    have hbw2 : base ≤ w2.heap.size := by have := GA.out.size; omega
    clear hml2 ow1 B1 B2 RA Hgz HOf2
    refine restS_begin (fun v : World => (convert 31 9 (.slice A2 n2 c2)).run Try.prog v = .ok (.string SB) v) (by kernel_rfl) ?_
    rw [hwd]
    clear hwd
    have hwz : IntKind.i64.wrap (z : Int) = (z : Int) := by rw [IntKind.wrap_i64]; omega
    refine restS_take (i := 0) SV.out rfl (by kernel_rfl) (by kernel_rfl) (by kernel_rfl) (by rfl) (fun v hv => by obtain v1 := hv; go_simp; try with_reducible rfl) ?_
    try simp only [Act.put, List.setIfInBounds_toArray, List.set_cons_zero, List.set_cons_succ]
    refine restS_take (i := 1) SV.out rfl (by kernel_rfl) (by kernel_rfl) (by kernel_rfl) (by rfl) (fun v hv => by obtain v1 := hv; go_simp; try with_reducible rfl) ?_
    try simp only [Act.put, List.setIfInBounds_toArray, List.set_cons_zero, List.set_cons_succ]
    refine restS_take (i := 2) SV.out rfl (by kernel_rfl) (by kernel_rfl) (by kernel_rfl) (by rfl) (fun v hv => by obtain v1 := hv; go_simp; try with_reducible rfl) ?_
    try simp only [Act.put, List.setIfInBounds_toArray, List.set_cons_zero, List.set_cons_succ]
    refine restS_take (i := 3) SV.out rfl (by kernel_rfl) (by kernel_rfl) (by kernel_rfl) (by rfl) (fun v hv => by obtain v1 := hv; go_simp; try with_reducible rfl) ?_
    try simp only [Act.put, List.setIfInBounds_toArray, List.set_cons_zero, List.set_cons_succ]
    refine restS_take (i := 5) SV.out rfl (by kernel_rfl) (by kernel_rfl) (by kernel_rfl) (by rfl) (fun v hv => by obtain v1 := hv; go_simp; try with_reducible rfl) ?_
    try simp only [Act.put, List.setIfInBounds_toArray, List.set_cons_zero, List.set_cons_succ]
    refine restS_take (i := 6) SV.out rfl (by kernel_rfl) (by kernel_rfl) (by kernel_rfl) (by rfl) (fun v hv => by obtain v1 := hv; go_simp; try with_reducible rfl) ?_
    try simp only [Act.put, List.setIfInBounds_toArray, List.set_cons_zero, List.set_cons_succ]
    refine restS_take (i := 7) SV.out rfl (by kernel_rfl) (by kernel_rfl) (by kernel_rfl) (by rfl) (fun v hv => by obtain v1 := hv; go_simp; try with_reducible rfl) ?_
    try simp only [Act.put, List.setIfInBounds_toArray, List.set_cons_zero, List.set_cons_succ]
    refine restS_take (i := 8) SV.out rfl (by kernel_rfl) (by kernel_rfl) (by kernel_rfl) (by rfl) (fun v hv => by obtain v1 := hv; go_simp; try with_reducible rfl) ?_
    try simp only [Act.put, List.setIfInBounds_toArray, List.set_cons_zero, List.set_cons_succ]
    refine restS_take (i := 9) SV.out rfl (by kernel_rfl) (by kernel_rfl) (by kernel_rfl) (by rfl) (fun v hv => by obtain v1 := hv; go_simp; try with_reducible rfl) ?_
    try simp only [Act.put, List.setIfInBounds_toArray, List.set_cons_zero, List.set_cons_succ]
    refine restS_two (i := 4) (j := 10) rfl rfl (by kernel_rfl) (by rfl) (by rfl) (fun K hK => ?_) (fun K hK => ?_)
    · go_simp
      refine hK.out _ _ SV.out ?_
      clear hK K
      try simp only [Act.put, List.setIfInBounds_toArray, List.set_cons_zero, List.set_cons_succ]
      refine restS_lone (i := 10) rfl (by kernel_rfl) (by rfl) (fun K hK => ?_)
      go_simp
      refine hK.out _ _ (HS.out w2 (Ch.refl _ _)).1 ?_
      clear hK K
      try simp only [Act.put, List.setIfInBounds_toArray, List.set_cons_zero, List.set_cons_succ]
      refine restS_mono (S' := fun v => (convert 31 9 (.slice A2 n2 c2)).run Try.prog v = .ok (.string SB) v ∧ (convert 31 9 (.slice (some ⟨gz, 0, none⟩) z z)).run Try.prog v = .ok (.string SZ) v) (fun v hv => hv.1) ?_
      refine restS_take (i := 11) (HS.out w2 (Ch.refl _ _)) rfl (by kernel_rfl) (by kernel_rfl) (by kernel_rfl) (by rfl) (fun v hv => by obtain ⟨v1, v3⟩ := hv; go_simp; try with_reducible rfl) ?_
      try simp only [Act.put, List.setIfInBounds_toArray, List.set_cons_zero, List.set_cons_succ]
      refine restS_take (i := 12) (HS.out w2 (Ch.refl _ _)) rfl (by kernel_rfl) (by kernel_rfl) (by kernel_rfl) (by rfl) (fun v hv => by obtain ⟨v1, v3⟩ := hv; go_simp; try with_reducible rfl) ?_
      try simp only [Act.put, List.setIfInBounds_toArray, List.set_cons_zero, List.set_cons_succ]
      refine restS_lone (i := 13) rfl (by kernel_rfl) (by rfl) (fun K hK => ?_)
      go_simp
      refine hK.out _ _ (HS.out _ (Ch.grown (alloc_below w2 _))) ?_
      clear hK K
      try simp only [Act.put, List.setIfInBounds_toArray, List.set_cons_zero, List.set_cons_succ]
      refine restS_lone (i := 14) rfl (by kernel_rfl) (by rfl) (fun K hK => ?_)
      refine wp_appOw (t := 45) rfl hiS hzS hsS hbS rfl (by decide) (.tmp 40) (.tmp 49) rfl (n := m) HLn.out rfl (owGrow OW2.out (alloc_below w2 _)) rfl (cellNew w2 _ _) rfl (by omega) (by have := (alloc_below w2 (.cells #[.string ⟨PD.toArray⟩] 9)).size; omega) ?_
      intro A9 c9 w9 ho9 hg9 hm9
      have hsz3 := (alloc_below w2 (.cells #[.string ⟨PD.toArray⟩] 9)).size
      have hF9 : ∀ (F : Nat → Prop), (∀ x, Aw = some x → F x.block) → ∀ k, (Value.slice Aw m ew).ownBlock = some k → F k := fun F hF k hk => by
        obtain ⟨x, hx, rfl⟩ := own_blk hk.symm
        exact hF x hx
      have G9 := Lib.hid (chGrownBy (F := RV R Ak A8 Aw) (Ch.grown (alloc_below w2 (.cells #[.string ⟨PD.toArray⟩] 9))) hg9 (fun k hk => .inl (hF9 _ (fun x hx => .inr (.inr (.inr ⟨x, hx, rfl⟩))) k hk)))
      have V9 := Lib.hid (chGrownBy (Ch.trans CW2.out (Ch.grown (alloc_below w2 (.cells #[.string ⟨PD.toArray⟩] 9)))) hg9 (fun k hk => .inl (hF9 _ (fun x hx => .inr (.inr (.inr ⟨x, hx, rfl⟩))) k hk)))
      have hk9 : ∀ k, RV R Ak A8 Aw k → (∀ x, Aw = some x → x.block ≠ k) → w9.heap[k]? = w2.heap[k]? := fun k hk hne => by
        have hlt := (X2.out.lt k hk).2
        refine (hg9.block k (by omega) (fun e => ?_)).trans ((alloc_below w2 (.cells #[.string ⟨PD.toArray⟩] 9)).block k hlt)
        obtain ⟨x, hx, hxk⟩ := own_blk e
        exact hne x hx hxk
      have M9 := Lib.hid (show ∀ x, A9 = some x → Aw = some x ∨ w2.heap.size ≤ x.block from fun x hx => (moved_or hm9 x hx).imp id (fun h => by omega))
      have X9 := Lib.hid (X2.out.putW (w' := w9) (Aw' := A9) (cw' := c9) (nw := m + 1) (ws' := s.pend.map (·.2) ++ [PD]) (by rw [List.length_append, List.length_map, HM.out]; rfl) hk9 (by rw [List.map_append]; exact ho9) M9.out)
      have y1 : w9.cell? ⟨R, 2, none⟩ = some (.slice Aw m ew) := (World.cell?_of_block (a := ⟨R, 2, none⟩) (hk9 R (.inl rfl) (fun x hx => X2.out.nw x hx))).trans hq22
      have y2 : w9.frozen? ⟨R, 2, none⟩ = false := (World.frozen?_of_block (a := ⟨R, 2, none⟩) (hk9 R (.inl rfl) (fun x hx => X2.out.nw x hx))).trans (X2.out.frozen 2)
      refine hK.out _ _ (HS.out _ G9.out) ?_
      clear hK K ho9 hg9 hm9 hk9 hF9
      try simp only [Act.put, List.setIfInBounds_toArray, List.set_cons_zero, List.set_cons_succ]
      refine restS_take (i := 15) (HS.out _ G9.out) rfl (by kernel_rfl) (by kernel_rfl) (by kernel_rfl) (by rfl) (fun v hv => by obtain ⟨v1, v3⟩ := hv; go_simp; try with_reducible rfl) ?_
      try simp only [Act.put, List.setIfInBounds_toArray, List.set_cons_zero, List.set_cons_succ]
      refine restS_take (i := 16) (HS.out _ G9.out) rfl (by kernel_rfl) (by kernel_rfl) (by kernel_rfl) (by rfl) (fun v hv => by obtain ⟨v1, v3⟩ := hv; go_simp; try with_reducible rfl) ?_
      try simp only [Act.put, List.setIfInBounds_toArray, List.set_cons_zero, List.set_cons_succ]
      refine restS_lone (i := 17) rfl (by kernel_rfl) (by rfl) (fun K hK => ?_)
      go_simp
      refine hK.out _ _ (HS.out _ (Ch.setCell G9.out (p := ⟨R, 2, none⟩) (.inl (.inl rfl)) _)) ?_
      clear hK K
      try simp only [Act.put, List.setIfInBounds_toArray, List.set_cons_zero, List.set_cons_succ]
      refine restS_done (by kernel_rfl) ?_
      clear y1 y2 hsz3
      go_wp2
      go_ret
      rw [HE.out]
      refine ⟨rfl, Ak, A8, A9, ?_, ?_, Ch.setCell V9.out (p := ⟨R, 2, none⟩) (.inl (.inl rfl)) _⟩
      · rw [show (raw { s with pend := s.pend ++ [(t, pad512 b)] }) = (⟨s.kept, List.map (fun p : Nat × List UInt8 => p.1) s.pend ++ [t], List.map (fun p : Nat × List UInt8 => p.2) s.pend ++ [PD], s.count, s.calls⟩ : Rs) by rw [HPD.out]; simp [raw]]
        exact X9.out
      · intro k hk
        have hw1 := HW1.out
        have hw2 := CW2.out.size
        rcases hk with hk | hk | ⟨x, hx, rfl⟩ | ⟨x, hx, rfl⟩
        · exact .inl (.inl hk)
        · exact .inl (.inr (.inl hk))
        · rcases M8.out x hx with h | h
          · exact .inl (.inr (.inr (.inl ⟨x, h, rfl⟩)))
          · exact .inr (by omega)
        · rcases M9.out x hx with h | h
          · exact .inl (.inr (.inr (.inr ⟨x, h, rfl⟩)))
          · exact .inr (by omega)
    · go_simp
      refine hK.out _ _ (HS.out w2 (Ch.refl _ _)).1 ?_
      clear hK K
      try simp only [Act.put, List.setIfInBounds_toArray, List.set_cons_zero, List.set_cons_succ]
      refine restS_mono (S' := fun v => (convert 31 9 (.slice A2 n2 c2)).run Try.prog v = .ok (.string SB) v ∧ (convert 31 9 (.slice (some ⟨gz, 0, none⟩) z z)).run Try.prog v = .ok (.string SZ) v) (fun v hv => hv.1) ?_
      refine restS_take (i := 11) (HS.out w2 (Ch.refl _ _)) rfl (by kernel_rfl) (by kernel_rfl) (by kernel_rfl) (by rfl) (fun v hv => by obtain ⟨v1, v3⟩ := hv; go_simp; try with_reducible rfl) ?_
      try simp only [Act.put, List.setIfInBounds_toArray, List.set_cons_zero, List.set_cons_succ]
      refine restS_take (i := 12) (HS.out w2 (Ch.refl _ _)) rfl (by kernel_rfl) (by kernel_rfl) (by kernel_rfl) (by rfl) (fun v hv => by obtain ⟨v1, v3⟩ := hv; go_simp; try with_reducible rfl) ?_
      try simp only [Act.put, List.setIfInBounds_toArray, List.set_cons_zero, List.set_cons_succ]
      refine restS_two (i := 4) (j := 13) rfl rfl (by kernel_rfl) (by rfl) (by rfl) (fun K hK => ?_) (fun K hK => ?_)
      · go_simp
        refine hK.out _ _ (HS.out w2 (Ch.refl _ _)) ?_
        clear hK K
        try simp only [Act.put, List.setIfInBounds_toArray, List.set_cons_zero, List.set_cons_succ]
        refine restS_lone (i := 13) rfl (by kernel_rfl) (by rfl) (fun K hK => ?_)
        go_simp
        refine hK.out _ _ (HS.out _ (Ch.grown (alloc_below w2 _))) ?_
        clear hK K
        try simp only [Act.put, List.setIfInBounds_toArray, List.set_cons_zero, List.set_cons_succ]
        refine restS_lone (i := 14) rfl (by kernel_rfl) (by rfl) (fun K hK => ?_)
        refine wp_appOw (t := 45) rfl hiS hzS hsS hbS rfl (by decide) (.tmp 40) (.tmp 49) rfl (n := m) HLn.out rfl (owGrow OW2.out (alloc_below w2 _)) rfl (cellNew w2 _ _) rfl (by omega) (by have := (alloc_below w2 (.cells #[.string ⟨PD.toArray⟩] 9)).size; omega) ?_
        intro A9 c9 w9 ho9 hg9 hm9
        have hsz3 := (alloc_below w2 (.cells #[.string ⟨PD.toArray⟩] 9)).size
        have hF9 : ∀ (F : Nat → Prop), (∀ x, Aw = some x → F x.block) → ∀ k, (Value.slice Aw m ew).ownBlock = some k → F k := fun F hF k hk => by
          obtain ⟨x, hx, rfl⟩ := own_blk hk.symm
          exact hF x hx
        have G9 := Lib.hid (chGrownBy (F := RV R Ak A8 Aw) (Ch.grown (alloc_below w2 (.cells #[.string ⟨PD.toArray⟩] 9))) hg9 (fun k hk => .inl (hF9 _ (fun x hx => .inr (.inr (.inr ⟨x, hx, rfl⟩))) k hk)))
        have V9 := Lib.hid (chGrownBy (Ch.trans CW2.out (Ch.grown (alloc_below w2 (.cells #[.string ⟨PD.toArray⟩] 9)))) hg9 (fun k hk => .inl (hF9 _ (fun x hx => .inr (.inr (.inr ⟨x, hx, rfl⟩))) k hk)))
        have hk9 : ∀ k, RV R Ak A8 Aw k → (∀ x, Aw = some x → x.block ≠ k) → w9.heap[k]? = w2.heap[k]? := fun k hk hne => by
          have hlt := (X2.out.lt k hk).2
          refine (hg9.block k (by omega) (fun e => ?_)).trans ((alloc_below w2 (.cells #[.string ⟨PD.toArray⟩] 9)).block k hlt)
          obtain ⟨x, hx, hxk⟩ := own_blk e
          exact hne x hx hxk
        have M9 := Lib.hid (show ∀ x, A9 = some x → Aw = some x ∨ w2.heap.size ≤ x.block from fun x hx => (moved_or hm9 x hx).imp id (fun h => by omega))
        have X9 := Lib.hid (X2.out.putW (w' := w9) (Aw' := A9) (cw' := c9) (nw := m + 1) (ws' := s.pend.map (·.2) ++ [PD]) (by rw [List.length_append, List.length_map, HM.out]; rfl) hk9 (by rw [List.map_append]; exact ho9) M9.out)
        have y1 : w9.cell? ⟨R, 2, none⟩ = some (.slice Aw m ew) := (World.cell?_of_block (a := ⟨R, 2, none⟩) (hk9 R (.inl rfl) (fun x hx => X2.out.nw x hx))).trans hq22
        have y2 : w9.frozen? ⟨R, 2, none⟩ = false := (World.frozen?_of_block (a := ⟨R, 2, none⟩) (hk9 R (.inl rfl) (fun x hx => X2.out.nw x hx))).trans (X2.out.frozen 2)
        refine hK.out _ _ (HS.out _ G9.out) ?_
        clear hK K ho9 hg9 hm9 hk9 hF9
        try simp only [Act.put, List.setIfInBounds_toArray, List.set_cons_zero, List.set_cons_succ]
        refine restS_take (i := 15) (HS.out _ G9.out) rfl (by kernel_rfl) (by kernel_rfl) (by kernel_rfl) (by rfl) (fun v hv => by obtain ⟨v1, v3⟩ := hv; go_simp; try with_reducible rfl) ?_
        try simp only [Act.put, List.setIfInBounds_toArray, List.set_cons_zero, List.set_cons_succ]
        refine restS_take (i := 16) (HS.out _ G9.out) rfl (by kernel_rfl) (by kernel_rfl) (by kernel_rfl) (by rfl) (fun v hv => by obtain ⟨v1, v3⟩ := hv; go_simp; try with_reducible rfl) ?_
        try simp only [Act.put, List.setIfInBounds_toArray, List.set_cons_zero, List.set_cons_succ]
        refine restS_lone (i := 17) rfl (by kernel_rfl) (by rfl) (fun K hK => ?_)
        go_simp
        refine hK.out _ _ (HS.out _ (Ch.setCell G9.out (p := ⟨R, 2, none⟩) (.inl (.inl rfl)) _)) ?_
        clear hK K
        try simp only [Act.put, List.setIfInBounds_toArray, List.set_cons_zero, List.set_cons_succ]
        refine restS_done (by kernel_rfl) ?_
        clear y1 y2 hsz3
        go_wp2
        go_ret
        rw [HE.out]
        refine ⟨rfl, Ak, A8, A9, ?_, ?_, Ch.setCell V9.out (p := ⟨R, 2, none⟩) (.inl (.inl rfl)) _⟩
        · rw [show (raw { s with pend := s.pend ++ [(t, pad512 b)] }) = (⟨s.kept, List.map (fun p : Nat × List UInt8 => p.1) s.pend ++ [t], List.map (fun p : Nat × List UInt8 => p.2) s.pend ++ [PD], s.count, s.calls⟩ : Rs) by rw [HPD.out]; simp [raw]]
          exact X9.out
        · intro k hk
          have hw1 := HW1.out
          have hw2 := CW2.out.size
          rcases hk with hk | hk | ⟨x, hx, rfl⟩ | ⟨x, hx, rfl⟩
          · exact .inl (.inl hk)
          · exact .inl (.inr (.inl hk))
          · rcases M8.out x hx with h | h
            · exact .inl (.inr (.inr (.inl ⟨x, h, rfl⟩)))
            · exact .inr (by omega)
          · rcases M9.out x hx with h | h
            · exact .inl (.inr (.inr (.inr ⟨x, h, rfl⟩)))
            · exact .inr (by omega)
      · go_simp
        refine hK.out _ _ (HS.out _ (Ch.grown (alloc_below w2 _))) ?_
        clear hK K
        try simp only [Act.put, List.setIfInBounds_toArray, List.set_cons_zero, List.set_cons_succ]
        refine restS_lone (i := 4) rfl (by kernel_rfl) (by rfl) (fun K hK => ?_)
        go_simp
        refine hK.out _ _ (HS.out _ (Ch.grown (alloc_below w2 _))) ?_
        clear hK K
        try simp only [Act.put, List.setIfInBounds_toArray, List.set_cons_zero, List.set_cons_succ]
        refine restS_lone (i := 14) rfl (by kernel_rfl) (by rfl) (fun K hK => ?_)
        refine wp_appOw (t := 45) rfl hiS hzS hsS hbS rfl (by decide) (.tmp 40) (.tmp 49) rfl (n := m) HLn.out rfl (owGrow OW2.out (alloc_below w2 _)) rfl (cellNew w2 _ _) rfl (by omega) (by have := (alloc_below w2 (.cells #[.string ⟨PD.toArray⟩] 9)).size; omega) ?_
        intro A9 c9 w9 ho9 hg9 hm9
        have hsz3 := (alloc_below w2 (.cells #[.string ⟨PD.toArray⟩] 9)).size
        have hF9 : ∀ (F : Nat → Prop), (∀ x, Aw = some x → F x.block) → ∀ k, (Value.slice Aw m ew).ownBlock = some k → F k := fun F hF k hk => by
          obtain ⟨x, hx, rfl⟩ := own_blk hk.symm
          exact hF x hx
        have G9 := Lib.hid (chGrownBy (F := RV R Ak A8 Aw) (Ch.grown (alloc_below w2 (.cells #[.string ⟨PD.toArray⟩] 9))) hg9 (fun k hk => .inl (hF9 _ (fun x hx => .inr (.inr (.inr ⟨x, hx, rfl⟩))) k hk)))
        have V9 := Lib.hid (chGrownBy (Ch.trans CW2.out (Ch.grown (alloc_below w2 (.cells #[.string ⟨PD.toArray⟩] 9)))) hg9 (fun k hk => .inl (hF9 _ (fun x hx => .inr (.inr (.inr ⟨x, hx, rfl⟩))) k hk)))
        have hk9 : ∀ k, RV R Ak A8 Aw k → (∀ x, Aw = some x → x.block ≠ k) → w9.heap[k]? = w2.heap[k]? := fun k hk hne => by
          have hlt := (X2.out.lt k hk).2
          refine (hg9.block k (by omega) (fun e => ?_)).trans ((alloc_below w2 (.cells #[.string ⟨PD.toArray⟩] 9)).block k hlt)
          obtain ⟨x, hx, hxk⟩ := own_blk e
          exact hne x hx hxk
        have M9 := Lib.hid (show ∀ x, A9 = some x → Aw = some x ∨ w2.heap.size ≤ x.block from fun x hx => (moved_or hm9 x hx).imp id (fun h => by omega))
        have X9 := Lib.hid (X2.out.putW (w' := w9) (Aw' := A9) (cw' := c9) (nw := m + 1) (ws' := s.pend.map (·.2) ++ [PD]) (by rw [List.length_append, List.length_map, HM.out]; rfl) hk9 (by rw [List.map_append]; exact ho9) M9.out)
        have y1 : w9.cell? ⟨R, 2, none⟩ = some (.slice Aw m ew) := (World.cell?_of_block (a := ⟨R, 2, none⟩) (hk9 R (.inl rfl) (fun x hx => X2.out.nw x hx))).trans hq22
        have y2 : w9.frozen? ⟨R, 2, none⟩ = false := (World.frozen?_of_block (a := ⟨R, 2, none⟩) (hk9 R (.inl rfl) (fun x hx => X2.out.nw x hx))).trans (X2.out.frozen 2)
        refine hK.out _ _ (HS.out _ G9.out) ?_
        clear hK K ho9 hg9 hm9 hk9 hF9
        try simp only [Act.put, List.setIfInBounds_toArray, List.set_cons_zero, List.set_cons_succ]
        refine restS_take (i := 15) (HS.out _ G9.out) rfl (by kernel_rfl) (by kernel_rfl) (by kernel_rfl) (by rfl) (fun v hv => by obtain ⟨v1, v3⟩ := hv; go_simp; try with_reducible rfl) ?_
        try simp only [Act.put, List.setIfInBounds_toArray, List.set_cons_zero, List.set_cons_succ]
        refine restS_take (i := 16) (HS.out _ G9.out) rfl (by kernel_rfl) (by kernel_rfl) (by kernel_rfl) (by rfl) (fun v hv => by obtain ⟨v1, v3⟩ := hv; go_simp; try with_reducible rfl) ?_
        try simp only [Act.put, List.setIfInBounds_toArray, List.set_cons_zero, List.set_cons_succ]
        refine restS_lone (i := 17) rfl (by kernel_rfl) (by rfl) (fun K hK => ?_)
        go_simp
        refine hK.out _ _ (HS.out _ (Ch.setCell G9.out (p := ⟨R, 2, none⟩) (.inl (.inl rfl)) _)) ?_
        clear hK K
        try simp only [Act.put, List.setIfInBounds_toArray, List.set_cons_zero, List.set_cons_succ]
        refine restS_done (by kernel_rfl) ?_
        clear y1 y2 hsz3
        go_wp2
        go_ret
        rw [HE.out]
        refine ⟨rfl, Ak, A8, A9, ?_, ?_, Ch.setCell V9.out (p := ⟨R, 2, none⟩) (.inl (.inl rfl)) _⟩
        · rw [show (raw { s with pend := s.pend ++ [(t, pad512 b)] }) = (⟨s.kept, List.map (fun p : Nat × List UInt8 => p.1) s.pend ++ [t], List.map (fun p : Nat × List UInt8 => p.2) s.pend ++ [PD], s.count, s.calls⟩ : Rs) by rw [HPD.out]; simp [raw]]
          exact X9.out
        · intro k hk
          have hw1 := HW1.out
          have hw2 := CW2.out.size
          rcases hk with hk | hk | ⟨x, hx, rfl⟩ | ⟨x, hx, rfl⟩
          · exact .inl (.inl hk)
          · exact .inl (.inr (.inl hk))
          · rcases M8.out x hx with h | h
            · exact .inl (.inr (.inr (.inl ⟨x, h, rfl⟩)))
            · exact .inr (by omega)
          · rcases M9.out x hx with h | h
            · exact .inl (.inr (.inr (.inr ⟨x, h, rfl⟩)))
            · exact .inr (by omega)
end
end Go.Proofs.Yteigfpgdnfladaa.S13
