/-
  Contract of the reference's device: Tamper.
-/
import Derived.Test.YteigfpgdnfladaaDvC
namespace Go.Proofs.Yteigfpgdnfladaa.S13
open Cf
open Go.RowKit
set_option linter.unusedVariables false
set_option linter.unusedSimpArgs false

theorem addS (p q : List UInt8) (h : p.length + q.length ≤ 4294967296) (W : World) : (Op.stringOp .add { data := p.toArray } { data := q.toArray }).run Try.prog W = .ok (.string { data := (p ++ q).toArray }) W := by
  rw [run_string_add_sum _ _ _ (by show p.toArray.size + q.toArray.size ≤ _; simp; omega)]
  congr 2
theorem restS_mono {P : Program} {ops : Array Oper} {Q : Exit → Act → World → Prop} {S S' : World → Prop} (hS : ∀ w, S' w → S w) {fuel : Nat} {listed : Array Bool} {a : Act} {w : World} (h : RestS P ops Q S' fuel listed a w) : RestS P ops Q S fuel listed a w :=
  held_mono hS _ _ _ _ h
theorem owGrow {w w' : World} {base : Nat} {e : TypeId} {A : Option Addr} {c : Nat} {vs : List Value} (h : Ow w base e A c vs) (hg : Grown w w') : Ow w' base e A c vs := h.keep fun x hx => hg.block x.block (h.lt x hx).2
theorem lt_of_cell {w : World} {b o : Nat} {v : Value} (h : w.cell? ⟨b, o, none⟩ = some v) : b < w.heap.size := World.block_lt_of_cell? w _ h
theorem rd_ch13 {F : Nat → Prop} {w w' : World} {A : Option Addr} {l : List UInt8} (h : Rd w w.heap.size A l) (hc : Ch F w w') (ho : ∀ x, A = some x → l ≠ [] → ¬ F x.block) : Rd w' w'.heap.size A l := by
  rcases h with e | ⟨b, off, e, hb, hcl⟩
  · exact .inl e
  · by_cases hl : l = []
    · exact .inl hl
    · exact .inr ⟨b, off, e, Nat.lt_of_lt_of_le hb hc.size, fun j hj => (hc.cell (p := ⟨b, off + j, none⟩) hb (ho ⟨b, off, none⟩ e hl)).trans (hcl j hj)⟩
theorem cellNew (W : World) (v : Value) (t : TypeId) : (W.alloc (.cells #[v] t)).cell? ⟨W.heap.size, 0, none⟩ = some v := by
  unfold World.cell?
  rw [show (W.alloc (.cells #[v] t)).heap[(⟨W.heap.size, 0, none⟩ : Addr).block]? = _ from heap_alloc_new W _]
  rfl
theorem owBase {w : World} {base B : Nat} {e : TypeId} {A : Option Addr} {c : Nat} {vs : List Value} (h : Ow w B e A c vs) (hB : base ≤ B) : Ow w base e A c vs := by
  obtain ⟨h1, h2⟩ := h
  rcases h2 with h2 | ⟨g, cap, cur, e, hb, r⟩
  · exact ⟨h1, .inl h2⟩
  · exact ⟨h1, .inr ⟨g, cap, cur, e, Nat.le_trans hB hb, r⟩⟩
/-- Both rows of what waits are new. -/
theorem rvPut2 {w w' : World} {base R : Nat} {Ak Aa Aw Aa' Aw' : Option Addr} {s : Rs} {ca' na cw' nw : Nat} {as' : List Nat} {ws' : List (List UInt8)} (h : Rv w base R Ak Aa Aw s) (hna : as'.length = na) (hnw : ws'.length = nw) (hA : ∀ k, k < w.heap.size → w'.heap[k]? = w.heap[k]?) (hoA : Ow w' base 3 Aa' ca' (as'.map iv)) (hoW : Ow w' base 9 Aw' cw' (ws'.map sv)) (hap : Apart Aa' Aw') (hmA : ∀ x, Aa' = some x → w.heap.size ≤ x.block) (hmW : ∀ x, Aw' = some x → w.heap.size ≤ x.block) :
    Rv ((w'.setCell ⟨R, 1, none⟩ (.slice Aa' na ca')).setCell ⟨R, 2, none⟩ (.slice Aw' nw cw')) base R Ak Aa' Aw' { s with at_ := as', what := ws' } := by
  subst hna hnw
  obtain ⟨ck, ca, cw, hR, h1, h2, h3⟩ := h.ex
  have hRl := (h.lt R (.inl rfl)).2
  have hR' : w'.heap[R]? = _ := (hA R hRl).trans hR
  have nA : ∀ x, Aa' = some x → x.block ≠ R := fun x hx => by have := hmA x hx; omega
  have nW : ∀ x, Aw' = some x → x.block ≠ R := fun x hx => by have := hmW x hx; omega
  refine { h with na := nA, nw := nW, ka := (fun x y hx hy => by have := hmA y hy; have := (h1.lt x hx).2; omega), kw := (fun x y hx hy => by have := hmW y hy; have := (h1.lt x hx).2; omega), aw := hap, ex := ⟨ck, ca', cw', ?_, ?_, ?_, ?_⟩ }
  · rw [heap_setCell_same _ R 2 _ _ _ (heap_setCell_same w' R 1 _ _ _ hR')]; rfl
  · exact Rv.offR h.nk (Rv.offR h.nk (h1.keep fun x hx => hA _ (h1.lt x hx).2) 1 _) 2 _
  · exact Rv.offR nA (Rv.offR nA hoA 1 _) 2 _
  · exact Rv.offR nW (Rv.offR nW hoW 1 _) 2 _
theorem owBeside {wa w' : World} {base : Nat} {e : TypeId} {A B : Option Addr} {n c d : Nat} {us : List Value} (hB : Ow wa base e B d us) (hap : Apart A B) (hg : wa.grownBy w' (Value.slice A n c).ownBlock) : Ow w' base e B d us :=
  hB.keep fun x hx => hg.block x.block (hB.lt x hx).2 (fun e => by
    obtain ⟨y, hy, hyx⟩ := own_blk e
    exact hap y x hy hx hyx)
theorem apSymm {A B : Option Addr} (h : Apart A B) : Apart B A := fun x y hx hy e => h y x hy hx e.symm
theorem apMoved {wa : World} {A A' B : Option Addr} (h : Apart A B) (hm : Moved wa A A') (hlt : ∀ x, B = some x → x.block < wa.heap.size) : Apart A' B := fun x y hx hy => by
  rcases moved_or hm x hx with h1 | h1
  · exact h x y h1 hy
  · have := hlt y hy; omega
theorem owBlk {w : World} {base : Nat} {e : TypeId} {A : Option Addr} {n c : Nat} {vs : List Value} (h : Ow w base e A c vs) (hn : vs.length = n) : ∀ k, (Value.slice A n c).ownBlock = some k → base ≤ k := fun k hk => by
  obtain ⟨x, hx, rfl⟩ := own_blk hk.symm
  exact (h.lt x hx).1
section
variable {base R : Nat} {Ak Aa Aw : Option Addr} {st : Dv} {w : World} {i : Nat}
set_option maxHeartbeats 8000000 in
theorem refTamper_any (h : Rv w base R Ak Aa Aw (raw st)) (hk : Ok st i) (hi : i ≤ 1000) (hl : st.kept.length ≤ 70000) (n : Int) (A2 : Option Addr) (n2 c2 : Nat) (b : List UInt8) (hb : Rd w w.heap.size A2 b) (hn2 : b.length = n2) (hn2b : n2 ≤ 1000) (hoff : ∀ x, A2 = some x → b ≠ [] → ¬ RV R Ak Aa Aw x.block) :
    Calls Try.prog 26 #[.pointer (some ⟨R, 0, none⟩), .int .i64 n, .slice A2 n2 c2] w fun e w' => e = .returned (.int .i64 (dvTamper st n b).1) ∧ Od base R w (RV R Ak Aa Aw) (dvTamper st n b).2 w' := by
  have H := Lib.hid h
  have HK := Lib.hid hk
  have HB := Lib.hid hb
  have HBl := Lib.hid hn2
  have HOff := Lib.hid hoff
  obtain ⟨ck, ca, cw, l1, l2, l3, q0, q1, q2, q3, q4⟩ := h.cells
  have hc0 : w.cell? ⟨R, 0, none⟩ = some (.slice Ak st.kept.length ck) := q0
  clear h hk hb hoff l1 l2 l3 q0 q1 q2 q3 q4
  by_cases h1 : n < 0
  · have HE := Lib.hid (show dvTamper st n b = (2, st) by unfold dvTamper; rw [if_pos (by unfold inR; omega)])
    clear hn2
    go_enter Try.func26, Try.ntmps26
    go_wp2
    go_ret
    rw [HE.out]
    exact ⟨rfl, od_same H.out (Ch.refl _ _)⟩
  by_cases h2 : n ≥ (st.kept.length : Int)
  · have HE := Lib.hid (show dvTamper st n b = (2, st) by unfold dvTamper; rw [if_pos (by unfold inR; omega)])
    clear hn2
    go_enter Try.func26, Try.ntmps26
    go_wp2
    go_ret
    rw [HE.out]
    exact ⟨rfl, od_same H.out (Ch.refl _ _)⟩
  by_cases h3 : (n2 : Int) > 512
  · have HE := Lib.hid (show dvTamper st n b = (2, st) by unfold dvTamper; rw [if_pos (.inr (by omega))])
    clear hn2
    go_enter Try.func26, Try.ntmps26
    go_wp2
    go_ret
    rw [HE.out]
    exact ⟨rfl, od_same H.out (Ch.refl _ _)⟩
  obtain ⟨t, rfl⟩ : ∃ t : Nat, n = (t : Int) := ⟨n.toNat, by omega⟩
  have ht : t < st.kept.length := by omega
  have HE := Lib.hid (show dvTamper st (t : Int) b = (0, { withK st (st.kept.set t (pad512 b)) with pend := st.pend.filter fun p => decide (p.1 ≠ t) }) by
    unfold dvTamper
    rw [if_neg (by unfold inR; omega)]
    rfl)
  obtain ⟨z, hz⟩ : ∃ z, z = 512 - n2 := ⟨_, rfl⟩
  have hz2 : (512 : Int) - (n2 : Int) = (z : Int) := by omega
  have HPd := Lib.hid (show pad512 b = b ++ List.replicate z 0 by unfold pad512; rw [hn2, hz])
  have hzle : z ≤ 512 := by omega
  have hbl5 : n2 ≤ 512 := by omega
  have bt : (t : Int) < (st.kept.length : Int) := by omega
  clear hn2 hz
  go_enter Try.func26, Try.ntmps26
  go_wp2_with fail
  clear hc0
  try simp only [Act.put, List.setIfInBounds_toArray, List.set_cons_zero, List.set_cons_succ]
  have GD := Lib.hid (show Grown w w.drew from (Below.refl _ w).drew)
  have H1 := Lib.hid (H.out.grow GD.out)
  have B1 := Lib.hid (show Rd w.drew w.drew.heap.size A2 b from HB.out)
  have C1 := Lib.hid (show Ch (RV R Ak Aa Aw) w w.drew from Ch.grown GD.out)
  generalize hwd : w.drew = wd at H1 B1 C1
  obtain ⟨gk, rfl, hgb, hgk, hgR, hck0, hfz⟩ := H1.out.keptAt t ht
  obtain ⟨dk, da, dw, l1, l2, l3, q0, q1, q2, q3, q4⟩ := H1.out.cells
  obtain ⟨SB, hSB⟩ : ∃ S : ByteArray, S = ⟨b.toArray⟩ := ⟨_, rfl⟩
  have HSB := Lib.hid hSB
  clear hSB
  have SV := Lib.hid (show wd.cell? ⟨R, 0, none⟩ = some (.slice (some ⟨gk, 0, none⟩) st.kept.length dk) ∧ (convert 31 9 (.slice A2 n2 c2)).run Try.prog wd = .ok (.string SB) wd from ⟨q0, by
    have := conv B1.out c2
    rw [HBl.out] at this
    rw [HSB.out]; exact this⟩)
  refine restS_begin (fun v : World => v.cell? ⟨R, 0, none⟩ = some (.slice (some ⟨gk, 0, none⟩) st.kept.length dk) ∧ (convert 31 9 (.slice A2 n2 c2)).run Try.prog v = .ok (.string SB) v) (by kernel_rfl) ?_
  rw [hwd]
  clear hwd q0 q1 q2 q3 q4 l1 l2 l3
  have hwz : IntKind.i64.wrap (z : Int) = (z : Int) := by rw [IntKind.wrap_i64]; omega
  refine restS_take (i := 0) SV.out rfl (by kernel_rfl) (by kernel_rfl) (by kernel_rfl) (by rfl) (fun v hv => by obtain ⟨v1, v2⟩ := hv; go_simp; try with_reducible rfl) ?_
  try simp only [Act.put, List.setIfInBounds_toArray, List.set_cons_zero, List.set_cons_succ]
  refine restS_take (i := 1) SV.out rfl (by kernel_rfl) (by kernel_rfl) (by kernel_rfl) (by rfl) (fun v hv => by obtain ⟨v1, v2⟩ := hv; go_simp; try with_reducible rfl) ?_
  try simp only [Act.put, List.setIfInBounds_toArray, List.set_cons_zero, List.set_cons_succ]
  refine restS_take (i := 2) SV.out rfl (by kernel_rfl) (by kernel_rfl) (by kernel_rfl) (by rfl) (fun v hv => by obtain ⟨v1, v2⟩ := hv; go_simp; try with_reducible rfl) ?_
  try simp only [Act.put, List.setIfInBounds_toArray, List.set_cons_zero, List.set_cons_succ]
  refine restS_take (i := 3) SV.out rfl (by kernel_rfl) (by kernel_rfl) (by kernel_rfl) (by rfl) (fun v hv => by obtain ⟨v1, v2⟩ := hv; go_simp; try with_reducible rfl) ?_
  try simp only [Act.put, List.setIfInBounds_toArray, List.set_cons_zero, List.set_cons_succ]
  refine restS_take (i := 4) SV.out rfl (by kernel_rfl) (by kernel_rfl) (by kernel_rfl) (by rfl) (fun v hv => by obtain ⟨v1, v2⟩ := hv; go_simp; try with_reducible rfl) ?_
  try simp only [Act.put, List.setIfInBounds_toArray, List.set_cons_zero, List.set_cons_succ]
  refine restS_take (i := 5) SV.out rfl (by kernel_rfl) (by kernel_rfl) (by kernel_rfl) (by rfl) (fun v hv => by obtain ⟨v1, v2⟩ := hv; go_simp; try with_reducible rfl) ?_
  try simp only [Act.put, List.setIfInBounds_toArray, List.set_cons_zero, List.set_cons_succ]
  refine restS_take (i := 6) SV.out rfl (by kernel_rfl) (by kernel_rfl) (by kernel_rfl) (by rfl) (fun v hv => by obtain ⟨v1, v2⟩ := hv; go_simp; try with_reducible rfl) ?_
  try simp only [Act.put, List.setIfInBounds_toArray, List.set_cons_zero, List.set_cons_succ]
  refine restS_take (i := 7) SV.out rfl (by kernel_rfl) (by kernel_rfl) (by kernel_rfl) (by rfl) (fun v hv => by obtain ⟨v1, v2⟩ := hv; go_simp; try with_reducible rfl) ?_
  try simp only [Act.put, List.setIfInBounds_toArray, List.set_cons_zero, List.set_cons_succ]
  refine restS_take (i := 8) SV.out rfl (by kernel_rfl) (by kernel_rfl) (by kernel_rfl) (by rfl) (fun v hv => by obtain ⟨v1, v2⟩ := hv; go_simp; try with_reducible rfl) ?_
  try simp only [Act.put, List.setIfInBounds_toArray, List.set_cons_zero, List.set_cons_succ]
  refine restS_take (i := 9) SV.out rfl (by kernel_rfl) (by kernel_rfl) (by kernel_rfl) (by rfl) (fun v hv => by obtain ⟨v1, v2⟩ := hv; go_simp; try with_reducible rfl) ?_
  try simp only [Act.put, List.setIfInBounds_toArray, List.set_cons_zero, List.set_cons_succ]
  have hmk := mk22 z (by omega)
  refine restS_lone (i := 10) rfl (by kernel_rfl) (by rfl) (fun K hK => ?_)
  go_simp
  clear hmk
  have GA := Lib.hid (alloc_below wd (.cells (bvs (List.replicate z 0)).toArray 5))
  have RA := Lib.hid ((Row.new wd (List.replicate z (0 : UInt8))).rd (B := (wd.alloc (.cells (bvs (List.replicate z 0)).toArray 5)).heap.size) (by simp))
  have H2 := Lib.hid (H1.out.grow GA.out)
  have C2 := Lib.hid (Ch.trans C1.out (Ch.grown GA.out))
  have B2 := Lib.hid (B1.out.grow GA.out)
  obtain ⟨gz, hgz⟩ : ∃ g, g = wd.heap.size := ⟨_, rfl⟩
  have Hgz := Lib.hid (show ∀ k, RV R (some ⟨gk, 0, none⟩) Aa Aw k → k ≠ gz from fun k hk e => by have := (H1.out.lt k hk).2; omega)
  rw [← hgz] at RA ⊢
  clear hgz H1 C1 B1 hck0 hfz
  generalize wd.alloc _ = w2 at GA RA H2 C2 B2 ⊢
  obtain ⟨SZ, hSZ⟩ : ∃ S : ByteArray, S = ⟨(List.replicate z (0 : UInt8)).toArray⟩ := ⟨_, rfl⟩
  have HSZ := Lib.hid hSZ
  clear hSZ
  obtain ⟨PD, hPD⟩ : ∃ P : List UInt8, P = pad512 b := ⟨_, rfl⟩
  have HPD := Lib.hid hPD
  have hadd : ∀ V : World, (Op.stringOp .add SB SZ).run Try.prog V = .ok (.string ⟨PD.toArray⟩) V := fun V => by
    rw [hPD, HPd.out, HSB.out, HSZ.out]
    exact addS b (List.replicate z 0) (by rw [HBl.out, List.length_replicate]; omega) V
  clear hPD
  obtain ⟨gk2, e2, hgb2, hgk2, hgR2, hck2, hfz2⟩ := H2.out.keptAt t ht
  have e3 : gk2 = gk := by simp only [Option.some.injEq, Addr.mk.injEq] at e2; exact e2.1.symm
  rw [e3] at hck2 hfz2
  clear e2 e3 hgb2 hgk2 hgR2
  have SW := Lib.hid (show (w2.cell? ⟨R, 0, none⟩ = some (.slice (some ⟨gk, 0, none⟩) st.kept.length dk) ∧ (convert 31 9 (.slice A2 n2 c2)).run Try.prog w2 = .ok (.string SB) w2) ∧ (convert 31 9 (.slice (some ⟨gz, 0, none⟩) z z)).run Try.prog w2 = .ok (.string SZ) w2 from by
    obtain ⟨ck2, ca2, cw2, _, _, _, q0, _⟩ := H2.out.cells
    refine ⟨⟨(GA.out.cell (p := ⟨R, 0, none⟩) ?_).trans SV.out.1, ?_⟩, ?_⟩
    · exact lt_of_cell SV.out.1
    · have := conv B2.out c2
      rw [HBl.out] at this
      rw [HSB.out]; exact this
    · have := conv RA.out z
      rw [List.length_replicate] at this
      rw [HSZ.out]; exact this)
  refine hK.out _ _ SW.out.1 ?_
  clear hK K
  try simp only [Act.put, List.setIfInBounds_toArray, List.set_cons_zero, List.set_cons_succ]
  refine restS_mono (S' := fun v => (v.cell? ⟨R, 0, none⟩ = some (.slice (some ⟨gk, 0, none⟩) st.kept.length dk) ∧ (convert 31 9 (.slice A2 n2 c2)).run Try.prog v = .ok (.string SB) v) ∧ (convert 31 9 (.slice (some ⟨gz, 0, none⟩) z z)).run Try.prog v = .ok (.string SZ) v) (fun v hv => hv.1) ?_
  refine restS_take (i := 11) SW.out rfl (by kernel_rfl) (by kernel_rfl) (by kernel_rfl) (by rfl) (fun v hv => by obtain ⟨⟨v1, v2⟩, v3⟩ := hv; go_simp; try with_reducible rfl) ?_
  try simp only [Act.put, List.setIfInBounds_toArray, List.set_cons_zero, List.set_cons_succ]
  refine restS_take (i := 12) SW.out rfl (by kernel_rfl) (by kernel_rfl) (by kernel_rfl) (by rfl) (fun v hv => by obtain ⟨⟨v1, v2⟩, v3⟩ := hv; go_simp; try with_reducible rfl) ?_
  try simp only [Act.put, List.setIfInBounds_toArray, List.set_cons_zero, List.set_cons_succ]
  refine restS_take (i := 13) SW.out rfl (by kernel_rfl) (by kernel_rfl) (by kernel_rfl) (by rfl) (fun v hv => by obtain ⟨⟨v1, v2⟩, v3⟩ := hv; go_simp; try with_reducible rfl) ?_
  try simp only [Act.put, List.setIfInBounds_toArray, List.set_cons_zero, List.set_cons_succ]
  have HN := Lib.hid (H2.out.setKept t ht PD)
  have CN := Lib.hid (Ch.setCell C2.out (p := ⟨gk, t, none⟩) (.inl (.inr (.inl ⟨_, rfl, rfl⟩))) (sv PD))
  have SX := Lib.hid (show ((w2.setCell ⟨gk, t, none⟩ (.string ⟨PD.toArray⟩)).cell? ⟨R, 0, none⟩ = some (.slice (some ⟨gk, 0, none⟩) st.kept.length dk) ∧ (convert 31 9 (.slice A2 n2 c2)).run Try.prog (w2.setCell ⟨gk, t, none⟩ (.string ⟨PD.toArray⟩)) = .ok (.string SB) (w2.setCell ⟨gk, t, none⟩ (.string ⟨PD.toArray⟩))) ∧ (convert 31 9 (.slice (some ⟨gz, 0, none⟩) z z)).run Try.prog (w2.setCell ⟨gk, t, none⟩ (.string ⟨PD.toArray⟩)) = .ok (.string SZ) (w2.setCell ⟨gk, t, none⟩ (.string ⟨PD.toArray⟩)) from by
    have hch : Ch (fun k => k = gk) w2 (w2.setCell ⟨gk, t, none⟩ (.string ⟨PD.toArray⟩)) := Ch.setCell (F := fun k => k = gk) (Ch.refl _ _) (p := ⟨gk, t, none⟩) (.inl rfl) _
    refine ⟨⟨(hch.cell (p := ⟨R, 0, none⟩) (lt_of_cell SW.out.1.1) (Ne.symm hgR)).trans SW.out.1.1, ?_⟩, ?_⟩
    · have h5 : Rd (w2.setCell ⟨gk, t, none⟩ (.string ⟨PD.toArray⟩)) (w2.setCell ⟨gk, t, none⟩ (.string ⟨PD.toArray⟩)).heap.size A2 b := rd_ch13 B2.out hch (fun x hx hl e => HOff.out x hx hl (.inr (.inl ⟨_, rfl, e.symm⟩)))
      have := conv h5 c2
      rw [HBl.out] at this
      rw [HSB.out]; exact this
    · have h5 : Rd (w2.setCell ⟨gk, t, none⟩ (.string ⟨PD.toArray⟩)) (w2.setCell ⟨gk, t, none⟩ (.string ⟨PD.toArray⟩)).heap.size (some ⟨gz, 0, none⟩) (List.replicate z 0) := rd_ch13 RA.out hch (fun x hx hl e => by
        simp only [Option.some.injEq] at hx
        subst hx
        exact Hgz.out gk (.inr (.inl ⟨_, rfl, rfl⟩)) e.symm)
      have := conv h5 z
      rw [List.length_replicate] at this
      rw [HSZ.out]; exact this)
  refine restS_lone (i := 14) rfl (by kernel_rfl) (by rfl) (fun K hK => ?_)
  go_simp
  refine hK.out _ _ SX.out ?_
  clear hK K
  try simp only [Act.put, List.setIfInBounds_toArray, List.set_cons_zero, List.set_cons_succ]
  refine restS_done (by kernel_rfl) ?_
  clear SX SW SV hadd hwz hz2
  generalize hw3 : w2.setCell ⟨gk, t, none⟩ (.string ⟨PD.toArray⟩) = w3
  have HZ3 := Lib.hid (show Rv w3 base R (some ⟨gk, 0, none⟩) Aa Aw (raw (withK st (st.kept.set t PD))) by rw [← hw3]; exact HN.out)
  have HC3 := Lib.hid (show Ch (RV R (some ⟨gk, 0, none⟩) Aa Aw) w w3 by rw [← hw3]; exact CN.out)
  clear hw3 HN CN H2 C2 B2 RA GA Hgz
  obtain ⟨m, hm⟩ : ∃ m, m = st.pend.length := ⟨_, rfl⟩
  have HM := Lib.hid hm
  have hml : m ≤ 1000 := by have := HK.out.few; omega
  clear hm
  obtain ⟨B2, hB2⟩ : ∃ B, B = w3.heap.size := ⟨_, rfl⟩
  have HB2 := Lib.hid hB2
  have HLt := Lib.hid (show ∀ k, RV R (some ⟨gk, 0, none⟩) Aa Aw k → k < B2 from fun k hk => by rw [hB2]; exact (HZ3.out.lt k hk).2)
  have HBw := Lib.hid (show w.heap.size ≤ B2 by rw [hB2]; exact HC3.out.size)
  clear hB2
  obtain ⟨iI, hiI, hzI, hsI, hbI⟩ := info_parts infoI
  obtain ⟨iS, hiS, hzS, hsS, hbS⟩ := info_parts infoS
  go_wp2_with fail
  go_loopw [7, 8, 9] (fun v7 v8 v9 wr => ∃ (k nf : Nat) (La Lw : Option Addr) (ca cw : Nat), v7 = .slice La nf ca ∧ v8 = .slice Lw nf cw ∧ v9 = .int .i64 (k : Int) ∧ k ≤ m ∧ nf ≤ k ∧ Hid (((st.pend.take k).filter fun p => decide (p.1 ≠ t)).length = nf) ∧ Hid (Ow wr B2 3 La ca (((st.pend.take k).filter fun p => decide (p.1 ≠ t)).map fun p => iv p.1)) ∧ Hid (Ow wr B2 9 Lw cw (((st.pend.take k).filter fun p => decide (p.1 ≠ t)).map fun p => sv p.2)) ∧ Hid (Apart La Lw) ∧ Hid (Below B2 w3 wr)) (fun _ _ v9 _ => m - (intOf v9).toNat)
  case atStart => exact ⟨0, 0, none, none, 0, 0, rfl, rfl, rfl, Nat.zero_le _, Nat.zero_le _, rfl, Ow.nil _ _ _, Ow.nil _ _ _, (fun x y hx => by cases hx), Below.refl _ _⟩
  case round =>
    obtain ⟨k, nf, La, Lw, ca, cw, rfl, rfl, rfl, hkm, hnf, HF, HA, HW, HAp, HBe⟩ := hrel
    have HZ := Lib.hid (HZ3.out.keep (fun k hk => HBe.out.block k (HLt.out k hk)))
    obtain ⟨dk, da, dw, l1, l2, l3, q0, q1, q2, q3, q4⟩ := HZ.out.cells
    have hc1 : wr.cell? ⟨R, 1, none⟩ = some (.slice Aa m da) := by rw [q1, HM.out]; simp [raw, withK]
    have hc2 : wr.cell? ⟨R, 2, none⟩ = some (.slice Aw m dw) := by rw [q2, HM.out]; simp [raw, withK]
    by_cases hlt : k < m
    · have bk : (k : Int) < (m : Int) := by omega
      have hkp : k < st.pend.length := by have := HM.out; omega
      obtain ⟨pa, hpa⟩ : ∃ p, p = st.pend[k].1 := ⟨_, rfl⟩
      obtain ⟨pw, hpw⟩ : ∃ p, p = st.pend[k].2 := ⟨_, rfl⟩
      obtain ⟨ga, rfl, hga, hca0⟩ := HZ.out.atAt k (by simp [raw, withK]; exact hkp)
      obtain ⟨gw, rfl, hgw, hcw0⟩ := HZ.out.whatAt k (by simp [raw, withK]; exact hkp)
      have hca : wr.cell? ⟨ga, k, none⟩ = some (.int .i64 (pa : Int)) := by rw [hca0, hpa]; simp [raw, iv, withK]
      have hcw : wr.cell? ⟨gw, k, none⟩ = some (.string ⟨pw.toArray⟩) := by rw [hcw0, hpw]; simp [raw, sv, withK]
      have HFk := Lib.hid (show (st.pend.take (k + 1)).filter (fun p => decide (p.1 ≠ t)) = (st.pend.take k).filter (fun p => decide (p.1 ≠ t)) ++ (if pa = t then [] else [(pa, pw)]) by
        rw [List.take_add_one, List.getElem?_eq_getElem hkp, List.filter_append, hpa, hpw]
        congr 1
        simp only [Option.toList_some, List.filter_cons, List.filter_nil]
        by_cases e : st.pend[k].1 = t <;> simp [e])
      clear hca0 hcw0 hpa hpw q0 q1 q2 q3 q4 l1 l2 l3
      by_cases hpt : pa = t
      · have hbe : ((pa : Int) != (t : Int)) = false := by simp [hpt]
        rw [if_pos hpt, List.append_nil] at HFk
        clear hpt
        go_wp2
        exact ⟨⟨k + 1, nf, La, Lw, ca, cw, by simp, by simp, by simp, by omega, by omega, by rw [HFk.out]; exact HF.out, by rw [HFk.out]; exact HA.out, by rw [HFk.out]; exact HW.out, HAp.out, HBe.out⟩, by simp [intOf]; omega⟩
      · have hbe : ((pa : Int) != (t : Int)) = true := by rw [bne_iff_ne]; omega
        rw [if_neg hpt] at HFk
        clear hpt
        have hz3 := HBe.out.size
        rw [← HB2.out] at hz3
        go_wp2_with (first
          | (at_builtin
             refine wpList_appOw (t := 32) rfl hiI hzI hsI hbI rfl (by decide) rfl (.tmp 58) (.tmp 66) rfl (n := nf) (by rw [List.length_map]; exact HF.out) rfl (owGrow HA.out (alloc_below wr _)) rfl (cellNew wr _ _) rfl (by omega) (by have := (alloc_below wr (.cells #[.int .i64 (pa : Int)] 3)).size; omega) ?_
             intro A8 c8 w8 ho8 hg8 hm8
             have O8 := Lib.hid ho8
             have W8 := Lib.hid (owBeside (owGrow HW.out (alloc_below wr (.cells #[.int .i64 (pa : Int)] 3))) HAp.out hg8)
             have P8 := Lib.hid (apMoved HAp.out hm8 (fun x hx => ((owGrow HW.out (alloc_below wr (.cells #[.int .i64 (pa : Int)] 3))).lt x hx).2))
             have E8 := Lib.hid (Below.grown (HBe.out.alloc (by omega) (.cells #[.int .i64 (pa : Int)] 3)) hg8 (by have := (alloc_below wr (.cells #[.int .i64 (pa : Int)] 3)).size; omega) (owBlk HA.out (by rw [List.length_map]; exact HF.out)))
             have d2 := (World.cell?_of_block (a := ⟨R, 2, none⟩) ((E8.out.block R (HLt.out R (.inl rfl))).trans (HBe.out.block R (HLt.out R (.inl rfl))).symm)).trans hc2
             have d3 := (World.cell?_of_block (a := ⟨gw, k, none⟩) ((E8.out.block gw (HLt.out gw (.inr (.inr (.inr ⟨_, rfl, rfl⟩))))).trans (HBe.out.block gw (HLt.out gw (.inr (.inr (.inr ⟨_, rfl, rfl⟩))))).symm)).trans hcw
             clear ho8 hg8 hm8)
          | (at_builtin
             refine wpList_appOw (t := 45) rfl hiS hzS hsS hbS rfl (by decide) rfl (.tmp 68) (.tmp 76) rfl (n := nf) (by rw [List.length_map]; exact HF.out) rfl (owGrow W8.out (alloc_below w8 _)) rfl (cellNew w8 _ _) rfl (by omega) (by have := (alloc_below w8 (.cells #[.string ⟨pw.toArray⟩] 9)).size; have := E8.out.size; have := HB2.out; omega) ?_
             intro A9 c9 w9 ho9 hg9 hm9
             have O9 := Lib.hid ho9
             have V9 := Lib.hid (owBeside (owGrow O8.out (alloc_below w8 (.cells #[.string ⟨pw.toArray⟩] 9))) (apSymm P8.out) hg9)
             have P9 := Lib.hid (apSymm (apMoved (apSymm P8.out) hm9 (fun x hx => ((owGrow O8.out (alloc_below w8 (.cells #[.string ⟨pw.toArray⟩] 9))).lt x hx).2)))
             have E9 := Lib.hid (Below.grown (E8.out.alloc (by have := E8.out.size; have := HB2.out; omega) (.cells #[.string ⟨pw.toArray⟩] 9)) hg9 (by have := (alloc_below w8 (.cells #[.string ⟨pw.toArray⟩] 9)).size; have := E8.out.size; have := HB2.out; omega) (owBlk W8.out (by rw [List.length_map]; exact HF.out)))
             clear ho9 hg9 hm9))
        exact ⟨⟨k + 1, nf + 1, A8, A9, c8, c9, by simp, by simp, by simp, by omega, by omega, by rw [HFk.out, List.length_append, HF.out]; rfl, by rw [HFk.out, List.map_append]; exact V9.out, by rw [HFk.out, List.map_append]; exact O9.out, P9.out, E9.out⟩, by simp [intOf]; omega⟩
    · have bk : ¬ (k : Int) < (m : Int) := by omega
      obtain rfl : k = m := by omega
      have HFm := Lib.hid (show st.pend.take k = st.pend by rw [HM.out]; exact List.take_length)
      rw [HFm.out] at HF HA HW
      have hbB : base ≤ B2 := by have := HLt.out R (.inl rfl); have := HZ3.out.bR; omega
      have hf1 := HZ.out.frozen 1
      have HZ1 := Lib.hid (HZ3.out.putA (w' := wr) (Aa' := La) (ca' := ca) (na := nf) (as' := (st.pend.filter fun p => decide (p.1 ≠ t)).map (·.1)) (by rw [List.length_map]; exact HF.out) (fun k hk _ => HBe.out.block k (HLt.out k hk)) (by rw [List.map_map]; exact owBase HA.out hbB) (fun x hx => .inr (by rw [← HB2.out]; exact (HA.out.lt x hx).1)))
      have hf2 := HZ1.out.frozen 2
      obtain ⟨ek, ea, ew, _, _, _, _, _, p2, _, _⟩ := HZ1.out.cells
      have HZ2 := Lib.hid (rvPut2 (w' := wr) (Aa' := La) (Aw' := Lw) (ca' := ca) (cw' := cw) (na := nf) (nw := nf) (as' := (st.pend.filter fun p => decide (p.1 ≠ t)).map (·.1)) (ws' := (st.pend.filter fun p => decide (p.1 ≠ t)).map (·.2)) HZ3.out (by rw [List.length_map]; exact HF.out) (by rw [List.length_map]; exact HF.out) (fun k hk => HBe.out.block k (by rw [HB2.out]; exact hk)) (by rw [List.map_map]; exact owBase HA.out hbB) (by rw [List.map_map]; exact owBase HW.out hbB) HAp.out (fun x hx => by rw [← HB2.out]; exact (HA.out.lt x hx).1) (fun x hx => by rw [← HB2.out]; exact (HW.out.lt x hx).1))
      have HC2 := Lib.hid (show Ch (RV R (some ⟨gk, 0, none⟩) Aa Aw) w wr from Ch.trans HC3.out (Ch.grown (HBe.out.mono (by rw [HB2.out]; exact Nat.le_refl _))))
      clear q0 q1 q2 q3 q4 l1 l2 l3
      go_wp2
      go_ret
      rw [HE.out]
      refine ⟨rfl, some ⟨gk, 0, none⟩, La, Lw, ?_, ?_, ?_⟩
      · rw [← HPD.out]; exact HZ2.out
      · intro k hk
        rcases hk with hk | hk | ⟨x, hx, rfl⟩ | ⟨x, hx, rfl⟩
        · exact .inl (.inl hk)
        · exact .inl (.inr (.inl hk))
        · exact .inr (Nat.le_trans HBw.out (HA.out.lt x hx).1)
        · exact .inr (Nat.le_trans HBw.out (HW.out.lt x hx).1)
      · exact Ch.setCell (Ch.setCell HC2.out (p := ⟨R, 1, none⟩) (.inl (.inl rfl)) _) (p := ⟨R, 2, none⟩) (.inl (.inl rfl)) _
end
end Go.Proofs.Yteigfpgdnfladaa.S13
