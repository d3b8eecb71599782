/-
  Contract of the reference's device: Tamper. Contract of the reference's device: Write.
-/
import Derived.Test.YthakdjaaknbmpaaMgKactsMain10
namespace Go.Proofs.Ythakdjaaknbmpaa.S13
open Cf
open Go.RowKit
set_option linter.unusedVariables false
set_option linter.unusedSimpArgs false

theorem addS (p q : List UInt8) (h : p.length + q.length ≤ 4294967296) (W : World) : (Op.stringOp .add { data := p.toArray } { data := q.toArray }).run Try.prog W = .ok (.string { data := (p ++ q).toArray }) W := by
  rw [run_string_add_sum _ _ _ (by show p.toArray.size + q.toArray.size ≤ _; simp; omega)]
  congr 2
theorem restS_mono {P : Program} {ops : Array Oper} {Q : Exit → Act → World → Prop} {S S' : World → Prop} (hS : ∀ w, S' w → S w) {fuel : Nat} {listed : Array Bool} {a : Act} {w : World} (h : RestS P ops Q S' fuel listed a w) : RestS P ops Q S fuel listed a w :=
  held_mono hS _ _ _ _ h
theorem owGrow {w w' : World} {base : Nat} {e : TypeId} {A : Option Addr} {c : Nat} {vs : List Value} (h : Ow w base e A c vs) (hg : Grown w w') : Ow w' base e A c vs := h.keep fun x hx => hg.block x.block (h.lt x hx).2
theorem lt_of_cell {w : World} {b o : Nat} {v : Value} (h : w.cell? ⟨b, o, none⟩ = some v) : b < w.heap.size := World.block_lt_of_cell? w _ h
theorem rd_ch13 {F : Nat → Prop} {w w' : World} {A : Option Addr} {l : List UInt8} (h : Rd w w.heap.size A l) (hc : Ch F w w') (ho : ∀ x, A = some x → l ≠ [] → ¬ F x.block) : Rd w' w'.heap.size A l := by
  rcases h with e | ⟨b, off, e, hb, hcl⟩
  · exact .inl e
  · by_cases hl : l = []
    · exact .inl hl
    · exact .inr ⟨b, off, e, Nat.lt_of_lt_of_le hb hc.size, fun j hj => (hc.cell (p := ⟨b, off + j, none⟩) hb (ho ⟨b, off, none⟩ e hl)).trans (hcl j hj)⟩
theorem cellNew (W : World) (v : Value) (t : TypeId) : (W.alloc (.cells #[v] t)).cell? ⟨W.heap.size, 0, none⟩ = some v := by
  unfold World.cell?
  rw [show (W.alloc (.cells #[v] t)).heap[(⟨W.heap.size, 0, none⟩ : Addr).block]? = _ from heap_alloc_new W _]
  rfl
theorem owBase {w : World} {base B : Nat} {e : TypeId} {A : Option Addr} {c : Nat} {vs : List Value} (h : Ow w B e A c vs) (hB : base ≤ B) : Ow w base e A c vs := by
  obtain ⟨h1, h2⟩ := h
  rcases h2 with h2 | ⟨g, cap, cur, e, hb, r⟩
  · exact ⟨h1, .inl h2⟩
  · exact ⟨h1, .inr ⟨g, cap, cur, e, Nat.le_trans hB hb, r⟩⟩
/-- Both rows of what waits are new. -/
theorem rvPut2 {w w' : World} {base R : Nat} {Ak Aa Aw Aa' Aw' : Option Addr} {s : Rs} {ca' na cw' nw : Nat} {as' : List Nat} {ws' : List (List UInt8)} (h : Rv w base R Ak Aa Aw s) (hna : as'.length = na) (hnw : ws'.length = nw) (hA : ∀ k, k < w.heap.size → w'.heap[k]? = w.heap[k]?) (hoA : Ow w' base 3 Aa' ca' (as'.map iv)) (hoW : Ow w' base 9 Aw' cw' (ws'.map sv)) (hap : Apart Aa' Aw') (hmA : ∀ x, Aa' = some x → w.heap.size ≤ x.block) (hmW : ∀ x, Aw' = some x → w.heap.size ≤ x.block) :
    Rv ((w'.setCell ⟨R, 1, none⟩ (.slice Aa' na ca')).setCell ⟨R, 2, none⟩ (.slice Aw' nw cw')) base R Ak Aa' Aw' { s with at_ := as', what := ws' } := by
  subst hna hnw
  obtain ⟨ck, ca, cw, hR, h1, h2, h3⟩ := h.ex
  have hRl := (h.lt R (.inl rfl)).2
  have hR' : w'.heap[R]? = _ := (hA R hRl).trans hR
  have nA : ∀ x, Aa' = some x → x.block ≠ R := fun x hx => by have := hmA x hx; omega
  have nW : ∀ x, Aw' = some x → x.block ≠ R := fun x hx => by have := hmW x hx; omega
  refine { h with na := nA, nw := nW, ka := (fun x y hx hy => by have := hmA y hy; have := (h1.lt x hx).2; omega), kw := (fun x y hx hy => by have := hmW y hy; have := (h1.lt x hx).2; omega), aw := hap, ex := ⟨ck, ca', cw', ?_, ?_, ?_, ?_⟩ }
  · rw [heap_setCell_same _ R 2 _ _ _ (heap_setCell_same w' R 1 _ _ _ hR')]; rfl
  · exact Rv.offR h.nk (Rv.offR h.nk (h1.keep fun x hx => hA _ (h1.lt x hx).2) 1 _) 2 _
  · exact Rv.offR nA (Rv.offR nA hoA 1 _) 2 _
  · exact Rv.offR nW (Rv.offR nW hoW 1 _) 2 _
theorem owBeside {wa w' : World} {base : Nat} {e : TypeId} {A B : Option Addr} {n c d : Nat} {us : List Value} (hB : Ow wa base e B d us) (hap : Apart A B) (hg : wa.grownBy w' (Value.slice A n c).ownBlock) : Ow w' base e B d us :=
  hB.keep fun x hx => hg.block x.block (hB.lt x hx).2 (fun e => by
    obtain ⟨y, hy, hyx⟩ := own_blk e
    exact hap y x hy hx hyx)
theorem apSymm {A B : Option Addr} (h : Apart A B) : Apart B A := fun x y hx hy e => h y x hy hx e.symm
theorem apMoved {wa : World} {A A' B : Option Addr} (h : Apart A B) (hm : Moved wa A A') (hlt : ∀ x, B = some x → x.block < wa.heap.size) : Apart A' B := fun x y hx hy => by
  rcases moved_or hm x hx with h1 | h1
  · exact h x y h1 hy
  · have := hlt y hy; omega
theorem owBlk {w : World} {base : Nat} {e : TypeId} {A : Option Addr} {n c : Nat} {vs : List Value} (h : Ow w base e A c vs) (hn : vs.length = n) : ∀ k, (Value.slice A n c).ownBlock = some k → base ≤ k := fun k hk => by
  obtain ⟨x, hx, rfl⟩ := own_blk hk.symm
  exact (h.lt x hx).1
section
variable {base R : Nat} {Ak Aa Aw : Option Addr} {st : Dv} {w : World} {i : Nat}
set_option maxRecDepth 20000 in
set_option maxHeartbeats 8000000 in
theorem refTamper_any (h : Rv w base R Ak Aa Aw (raw st)) (hk : Ok st i) (hi : i ≤ 1000) (hl : st.kept.length ≤ 70000) (n : Int) (A2 : Option Addr) (n2 c2 : Nat) (b : List UInt8) (hb : Rd w w.heap.size A2 b) (hn2 : b.length = n2) (hn2b : n2 ≤ 1000) (hoff : ∀ x, A2 = some x → b ≠ [] → ¬ RV R Ak Aa Aw x.block) :
    Calls Try.prog 25 #[.pointer (some ⟨R, 0, none⟩), .int .i64 n, .slice A2 n2 c2] w fun e w' => e = .returned (.int .i64 (dvTamper st n b).1) ∧ Od base R w (RV R Ak Aa Aw) (dvTamper st n b).2 w' := by
  have H := Lib.hid h
  have HK := Lib.hid hk
  have HB := Lib.hid hb
  have HBl := Lib.hid hn2
  have HOff := Lib.hid hoff
  obtain ⟨ck, ca, cw, l1, l2, l3, q0, q1, q2, q3, q4⟩ := h.cells
  have hc0 : w.cell? ⟨R, 0, none⟩ = some (.slice Ak st.kept.length ck) := q0
  clear h hk hb hoff l1 l2 l3 q0 q1 q2 q3 q4
  by_cases h1 : n < 0
  · have HE := Lib.hid (show dvTamper st n b = (2, st) by unfold dvTamper; rw [if_pos (by unfold inR; omega)])
    clear hn2
    go_enter Try.func25, Try.ntmps25
    go_wp2
    go_ret
    rw [HE.out]
    exact ⟨rfl, od_same H.out (Ch.refl _ _)⟩
  by_cases h2 : n ≥ (st.kept.length : Int)
  · have HE := Lib.hid (show dvTamper st n b = (2, st) by unfold dvTamper; rw [if_pos (by unfold inR; omega)])
    clear hn2
    go_enter Try.func25, Try.ntmps25
    go_wp2
    go_ret
    rw [HE.out]
    exact ⟨rfl, od_same H.out (Ch.refl _ _)⟩
  by_cases h3 : (n2 : Int) > 512
  · have HE := Lib.hid (show dvTamper st n b = (2, st) by unfold dvTamper; rw [if_pos (.inr (by omega))])
    clear hn2
    go_enter Try.func25, Try.ntmps25
    go_wp2
    go_ret
    rw [HE.out]
    exact ⟨rfl, od_same H.out (Ch.refl _ _)⟩
  obtain ⟨t, rfl⟩ : ∃ t : Nat, n = (t : Int) := ⟨n.toNat, by omega⟩
  have ht : t < st.kept.length := by omega
  have HE := Lib.hid (show dvTamper st (t : Int) b = (0, { withK st (st.kept.set t (pad512 b)) with pend := st.pend.filter fun p => decide (p.1 ≠ t) }) by
    unfold dvTamper
    rw [if_neg (by unfold inR; omega)]
    rfl)
  obtain ⟨z, hz⟩ : ∃ z, z = 512 - n2 := ⟨_, rfl⟩
  have hz2 : (512 : Int) - (n2 : Int) = (z : Int) := by omega
  have HPd := Lib.hid (show pad512 b = b ++ List.replicate z 0 by unfold pad512; rw [hn2, hz])
  have hzle : z ≤ 512 := by omega
  have hbl5 : n2 ≤ 512 := by omega
  have bt : (t : Int) < (st.kept.length : Int) := by omega
  clear hn2 hz
  go_enter Try.func25, Try.ntmps25
  go_wp2_with fail
  clear hc0
  try simp only [Act.put, List.setIfInBounds_toArray, List.set_cons_zero, List.set_cons_succ]
  have GD := Lib.hid (show Grown w w.drew from (Below.refl _ w).drew)
  have H1 := Lib.hid (H.out.grow GD.out)
  have B1 := Lib.hid (show Rd w.drew w.drew.heap.size A2 b from HB.out)
  have C1 := Lib.hid (show Ch (RV R Ak Aa Aw) w w.drew from Ch.grown GD.out)
  generalize hwd : w.drew = wd at H1 B1 C1
  obtain ⟨gk, rfl, hgb, hgk, hgR, hck0, hfz⟩ := H1.out.keptAt t ht
  obtain ⟨dk, da, dw, l1, l2, l3, q0, q1, q2, q3, q4⟩ := H1.out.cells
  obtain ⟨SB, hSB⟩ : ∃ S : ByteArray, S = ⟨b.toArray⟩ := ⟨_, rfl⟩
  have HSB := Lib.hid hSB
  clear hSB
  have SV := Lib.hid (show wd.cell? ⟨R, 0, none⟩ = some (.slice (some ⟨gk, 0, none⟩) st.kept.length dk) ∧ (convert 38 9 (.slice A2 n2 c2)).run Try.prog wd = .ok (.string SB) wd from ⟨q0, by
    have := conv B1.out c2
    rw [HBl.out] at this
    rw [HSB.out]; exact this⟩)
  refine restS_begin (fun v : World => v.cell? ⟨R, 0, none⟩ = some (.slice (some ⟨gk, 0, none⟩) st.kept.length dk) ∧ (convert 38 9 (.slice A2 n2 c2)).run Try.prog v = .ok (.string SB) v) (by kernel_rfl) ?_
  rw [hwd]
  clear hwd q0 q1 q2 q3 q4 l1 l2 l3
  have hwz : IntKind.i64.wrap (z : Int) = (z : Int) := by rw [IntKind.wrap_i64]; omega
  refine restS_take (i := 0) SV.out rfl (by kernel_rfl) (by kernel_rfl) (by kernel_rfl) (by rfl) (fun v hv => by obtain ⟨v1, v2⟩ := hv; go_simp; try with_reducible rfl) ?_
  try simp only [Act.put, List.setIfInBounds_toArray, List.set_cons_zero, List.set_cons_succ]
  refine restS_take (i := 1) SV.out rfl (by kernel_rfl) (by kernel_rfl) (by kernel_rfl) (by rfl) (fun v hv => by obtain ⟨v1, v2⟩ := hv; go_simp; try with_reducible rfl) ?_
  try simp only [Act.put, List.setIfInBounds_toArray, List.set_cons_zero, List.set_cons_succ]
  refine restS_take (i := 2) SV.out rfl (by kernel_rfl) (by kernel_rfl) (by kernel_rfl) (by rfl) (fun v hv => by obtain ⟨v1, v2⟩ := hv; go_simp; try with_reducible rfl) ?_
  try simp only [Act.put, List.setIfInBounds_toArray, List.set_cons_zero, List.set_cons_succ]
  refine restS_take (i := 3) SV.out rfl (by kernel_rfl) (by kernel_rfl) (by kernel_rfl) (by rfl) (fun v hv => by obtain ⟨v1, v2⟩ := hv; go_simp; try with_reducible rfl) ?_
  try simp only [Act.put, List.setIfInBounds_toArray, List.set_cons_zero, List.set_cons_succ]
  refine restS_take (i := 4) SV.out rfl (by kernel_rfl) (by kernel_rfl) (by kernel_rfl) (by rfl) (fun v hv => by obtain ⟨v1, v2⟩ := hv; go_simp; try with_reducible rfl) ?_
  try simp only [Act.put, List.setIfInBounds_toArray, List.set_cons_zero, List.set_cons_succ]
  refine restS_take (i := 5) SV.out rfl (by kernel_rfl) (by kernel_rfl) (by kernel_rfl) (by rfl) (fun v hv => by obtain ⟨v1, v2⟩ := hv; go_simp; try with_reducible rfl) ?_
  try simp only [Act.put, List.setIfInBounds_toArray, List.set_cons_zero, List.set_cons_succ]
  refine restS_take (i := 6) SV.out rfl (by kernel_rfl) (by kernel_rfl) (by kernel_rfl) (by rfl) (fun v hv => by obtain ⟨v1, v2⟩ := hv; go_simp; try with_reducible rfl) ?_
  try simp only [Act.put, List.setIfInBounds_toArray, List.set_cons_zero, List.set_cons_succ]
  refine restS_take (i := 7) SV.out rfl (by kernel_rfl) (by kernel_rfl) (by kernel_rfl) (by rfl) (fun v hv => by obtain ⟨v1, v2⟩ := hv; go_simp; try with_reducible rfl) ?_
  try simp only [Act.put, List.setIfInBounds_toArray, List.set_cons_zero, List.set_cons_succ]
  refine restS_take (i := 8) SV.out rfl (by kernel_rfl) (by kernel_rfl) (by kernel_rfl) (by rfl) (fun v hv => by obtain ⟨v1, v2⟩ := hv; go_simp; try with_reducible rfl) ?_
  try simp only [Act.put, List.setIfInBounds_toArray, List.set_cons_zero, List.set_cons_succ]
  refine restS_take (i := 9) SV.out rfl (by kernel_rfl) (by kernel_rfl) (by kernel_rfl) (by rfl) (fun v hv => by obtain ⟨v1, v2⟩ := hv; go_simp; try with_reducible rfl) ?_
  try simp only [Act.put, List.setIfInBounds_toArray, List.set_cons_zero, List.set_cons_succ]
  have hmk := mk22 z (by omega)
  refine restS_lone (i := 10) rfl (by kernel_rfl) (by rfl) (fun K hK => ?_)
  go_simp
  clear hmk
  have GA := Lib.hid (alloc_below wd (.cells (bvs (List.replicate z 0)).toArray 5))
  have RA := Lib.hid ((Row.new wd (List.replicate z (0 : UInt8))).rd (B := (wd.alloc (.cells (bvs (List.replicate z 0)).toArray 5)).heap.size) (by simp))
  have H2 := Lib.hid (H1.out.grow GA.out)
  have C2 := Lib.hid (Ch.trans C1.out (Ch.grown GA.out))
  have B2 := Lib.hid (B1.out.grow GA.out)
  obtain ⟨gz, hgz⟩ : ∃ g, g = wd.heap.size := ⟨_, rfl⟩
  have Hgz := Lib.hid (show ∀ k, RV R (some ⟨gk, 0, none⟩) Aa Aw k → k ≠ gz from fun k hk e => by have := (H1.out.lt k hk).2; omega)
  rw [← hgz] at RA ⊢
  clear hgz H1 C1 B1 hck0 hfz
  generalize wd.alloc _ = w2 at GA RA H2 C2 B2 ⊢
  obtain ⟨SZ, hSZ⟩ : ∃ S : ByteArray, S = ⟨(List.replicate z (0 : UInt8)).toArray⟩ := ⟨_, rfl⟩
  have HSZ := Lib.hid hSZ
  clear hSZ
  obtain ⟨PD, hPD⟩ : ∃ P : List UInt8, P = pad512 b := ⟨_, rfl⟩
  have HPD := Lib.hid hPD
  have hadd : ∀ V : World, (Op.stringOp .add SB SZ).run Try.prog V = .ok (.string ⟨PD.toArray⟩) V := fun V => by
    rw [hPD, HPd.out, HSB.out, HSZ.out]
    exact addS b (List.replicate z 0) (by rw [HBl.out, List.length_replicate]; omega) V
  clear hPD
  obtain ⟨gk2, e2, hgb2, hgk2, hgR2, hck2, hfz2⟩ := H2.out.keptAt t ht
  have e3 : gk2 = gk := by simp only [Option.some.injEq, Addr.mk.injEq] at e2; exact e2.1.symm
  rw [e3] at hck2 hfz2
  clear e2 e3 hgb2 hgk2 hgR2
  have SW := Lib.hid (show (w2.cell? ⟨R, 0, none⟩ = some (.slice (some ⟨gk, 0, none⟩) st.kept.length dk) ∧ (convert 38 9 (.slice A2 n2 c2)).run Try.prog w2 = .ok (.string SB) w2) ∧ (convert 38 9 (.slice (some ⟨gz, 0, none⟩) z z)).run Try.prog w2 = .ok (.string SZ) w2 from by
    obtain ⟨ck2, ca2, cw2, _, _, _, q0, _⟩ := H2.out.cells
    refine ⟨⟨(GA.out.cell (p := ⟨R, 0, none⟩) ?_).trans SV.out.1, ?_⟩, ?_⟩
    · exact lt_of_cell SV.out.1
    · have := conv B2.out c2
      rw [HBl.out] at this
      rw [HSB.out]; exact this
    · have := conv RA.out z
      rw [List.length_replicate] at this
      rw [HSZ.out]; exact this)
  refine hK.out _ _ SW.out.1 ?_
  clear hK K
  try simp only [Act.put, List.setIfInBounds_toArray, List.set_cons_zero, List.set_cons_succ]
  refine restS_mono (S' := fun v => (v.cell? ⟨R, 0, none⟩ = some (.slice (some ⟨gk, 0, none⟩) st.kept.length dk) ∧ (convert 38 9 (.slice A2 n2 c2)).run Try.prog v = .ok (.string SB) v) ∧ (convert 38 9 (.slice (some ⟨gz, 0, none⟩) z z)).run Try.prog v = .ok (.string SZ) v) (fun v hv => hv.1) ?_
  refine restS_take (i := 11) SW.out rfl (by kernel_rfl) (by kernel_rfl) (by kernel_rfl) (by rfl) (fun v hv => by obtain ⟨⟨v1, v2⟩, v3⟩ := hv; go_simp; try with_reducible rfl) ?_
  try simp only [Act.put, List.setIfInBounds_toArray, List.set_cons_zero, List.set_cons_succ]
  refine restS_take (i := 12) SW.out rfl (by kernel_rfl) (by kernel_rfl) (by kernel_rfl) (by rfl) (fun v hv => by obtain ⟨⟨v1, v2⟩, v3⟩ := hv; go_simp; try with_reducible rfl) ?_
  try simp only [Act.put, List.setIfInBounds_toArray, List.set_cons_zero, List.set_cons_succ]
  refine restS_take (i := 13) SW.out rfl (by kernel_rfl) (by kernel_rfl) (by kernel_rfl) (by rfl) (fun v hv => by obtain ⟨⟨v1, v2⟩, v3⟩ := hv; go_simp; try with_reducible rfl) ?_
  try simp only [Act.put, List.setIfInBounds_toArray, List.set_cons_zero, List.set_cons_succ]
  have HN := Lib.hid (H2.out.setKept t ht PD)
  have CN := Lib.hid (Ch.setCell C2.out (p := ⟨gk, t, none⟩) (.inl (.inr (.inl ⟨_, rfl, rfl⟩))) (sv PD))
  have SX := Lib.hid (show ((w2.setCell ⟨gk, t, none⟩ (.string ⟨PD.toArray⟩)).cell? ⟨R, 0, none⟩ = some (.slice (some ⟨gk, 0, none⟩) st.kept.length dk) ∧ (convert 38 9 (.slice A2 n2 c2)).run Try.prog (w2.setCell ⟨gk, t, none⟩ (.string ⟨PD.toArray⟩)) = .ok (.string SB) (w2.setCell ⟨gk, t, none⟩ (.string ⟨PD.toArray⟩))) ∧ (convert 38 9 (.slice (some ⟨gz, 0, none⟩) z z)).run Try.prog (w2.setCell ⟨gk, t, none⟩ (.string ⟨PD.toArray⟩)) = .ok (.string SZ) (w2.setCell ⟨gk, t, none⟩ (.string ⟨PD.toArray⟩)) from by
    have hch : Ch (fun k => k = gk) w2 (w2.setCell ⟨gk, t, none⟩ (.string ⟨PD.toArray⟩)) := Ch.setCell (F := fun k => k = gk) (Ch.refl _ _) (p := ⟨gk, t, none⟩) (.inl rfl) _
    refine ⟨⟨(hch.cell (p := ⟨R, 0, none⟩) (lt_of_cell SW.out.1.1) (Ne.symm hgR)).trans SW.out.1.1, ?_⟩, ?_⟩
    · have h5 : Rd (w2.setCell ⟨gk, t, none⟩ (.string ⟨PD.toArray⟩)) (w2.setCell ⟨gk, t, none⟩ (.string ⟨PD.toArray⟩)).heap.size A2 b := rd_ch13 B2.out hch (fun x hx hl e => HOff.out x hx hl (.inr (.inl ⟨_, rfl, e.symm⟩)))
      have := conv h5 c2
      rw [HBl.out] at this
      rw [HSB.out]; exact this
    · have h5 : Rd (w2.setCell ⟨gk, t, none⟩ (.string ⟨PD.toArray⟩)) (w2.setCell ⟨gk, t, none⟩ (.string ⟨PD.toArray⟩)).heap.size (some ⟨gz, 0, none⟩) (List.replicate z 0) := rd_ch13 RA.out hch (fun x hx hl e => by
        simp only [Option.some.injEq] at hx
        subst hx
        exact Hgz.out gk (.inr (.inl ⟨_, rfl, rfl⟩)) e.symm)
      have := conv h5 z
      rw [List.length_replicate] at this
      rw [HSZ.out]; exact this)
  refine restS_lone (i := 14) rfl (by kernel_rfl) (by rfl) (fun K hK => ?_)
  go_simp
  refine hK.out _ _ SX.out ?_
  clear hK K
  try simp only [Act.put, List.setIfInBounds_toArray, List.set_cons_zero, List.set_cons_succ]
  refine restS_done (by kernel_rfl) ?_
  clear SX SW SV hadd hwz hz2
  generalize hw3 : w2.setCell ⟨gk, t, none⟩ (.string ⟨PD.toArray⟩) = w3
  have HZ3 := Lib.hid (show Rv w3 base R (some ⟨gk, 0, none⟩) Aa Aw (raw (withK st (st.kept.set t PD))) by rw [← hw3]; exact HN.out)
  have HC3 := Lib.hid (show Ch (RV R (some ⟨gk, 0, none⟩) Aa Aw) w w3 by rw [← hw3]; exact CN.out)
  clear hw3 HN CN H2 C2 B2 RA GA Hgz
  obtain ⟨m, hm⟩ : ∃ m, m = st.pend.length := ⟨_, rfl⟩
  have HM := Lib.hid hm
  have hml : m ≤ 1000 := by have := HK.out.few; omega
  clear hm
  obtain ⟨B2, hB2⟩ : ∃ B, B = w3.heap.size := ⟨_, rfl⟩
  have HB2 := Lib.hid hB2
  have HLt := Lib.hid (show ∀ k, RV R (some ⟨gk, 0, none⟩) Aa Aw k → k < B2 from fun k hk => by rw [hB2]; exact (HZ3.out.lt k hk).2)
  have HBw := Lib.hid (show w.heap.size ≤ B2 by rw [hB2]; exact HC3.out.size)
  clear hB2
  obtain ⟨iI, hiI, hzI, hsI, hbI⟩ := info_parts infoI
  obtain ⟨iS, hiS, hzS, hsS, hbS⟩ := info_parts infoS
  go_wp2_with fail
  go_loopw [7, 8, 9] (fun v7 v8 v9 wr => ∃ (k nf : Nat) (La Lw : Option Addr) (ca cw : Nat), v7 = .slice La nf ca ∧ v8 = .slice Lw nf cw ∧ v9 = .int .i64 (k : Int) ∧ k ≤ m ∧ nf ≤ k ∧ Hid (((st.pend.take k).filter fun p => decide (p.1 ≠ t)).length = nf) ∧ Hid (Ow wr B2 3 La ca (((st.pend.take k).filter fun p => decide (p.1 ≠ t)).map fun p => iv p.1)) ∧ Hid (Ow wr B2 9 Lw cw (((st.pend.take k).filter fun p => decide (p.1 ≠ t)).map fun p => sv p.2)) ∧ Hid (Apart La Lw) ∧ Hid (Below B2 w3 wr)) (fun _ _ v9 _ => m - (intOf v9).toNat)
  case atStart => exact ⟨0, 0, none, none, 0, 0, rfl, rfl, rfl, Nat.zero_le _, Nat.zero_le _, rfl, Ow.nil _ _ _, Ow.nil _ _ _, (fun x y hx => by cases hx), Below.refl _ _⟩
  case round =>
    obtain ⟨k, nf, La, Lw, ca, cw, rfl, rfl, rfl, hkm, hnf, HF, HA, HW, HAp, HBe⟩ := hrel
    have HZ := Lib.hid (HZ3.out.keep (fun k hk => HBe.out.block k (HLt.out k hk)))
    obtain ⟨dk, da, dw, l1, l2, l3, q0, q1, q2, q3, q4⟩ := HZ.out.cells
    have hc1 : wr.cell? ⟨R, 1, none⟩ = some (.slice Aa m da) := by rw [q1, HM.out]; simp [raw, withK]
    have hc2 : wr.cell? ⟨R, 2, none⟩ = some (.slice Aw m dw) := by rw [q2, HM.out]; simp [raw, withK]
    by_cases hlt : k < m
    · have bk : (k : Int) < (m : Int) := by omega
      have hkp : k < st.pend.length := by have := HM.out; omega
      obtain ⟨pa, hpa⟩ : ∃ p, p = st.pend[k].1 := ⟨_, rfl⟩
      obtain ⟨pw, hpw⟩ : ∃ p, p = st.pend[k].2 := ⟨_, rfl⟩
      obtain ⟨ga, rfl, hga, hca0⟩ := HZ.out.atAt k (by simp [raw, withK]; exact hkp)
      obtain ⟨gw, rfl, hgw, hcw0⟩ := HZ.out.whatAt k (by simp [raw, withK]; exact hkp)
      have hca : wr.cell? ⟨ga, k, none⟩ = some (.int .i64 (pa : Int)) := by rw [hca0, hpa]; simp [raw, iv, withK]
      have hcw : wr.cell? ⟨gw, k, none⟩ = some (.string ⟨pw.toArray⟩) := by rw [hcw0, hpw]; simp [raw, sv, withK]
      have HFk := Lib.hid (show (st.pend.take (k + 1)).filter (fun p => decide (p.1 ≠ t)) = (st.pend.take k).filter (fun p => decide (p.1 ≠ t)) ++ (if pa = t then [] else [(pa, pw)]) by
        rw [List.take_add_one, List.getElem?_eq_getElem hkp, List.filter_append, hpa, hpw]
        congr 1
        simp only [Option.toList_some, List.filter_cons, List.filter_nil]
        by_cases e : st.pend[k].1 = t <;> simp [e])
      clear hca0 hcw0 hpa hpw q0 q1 q2 q3 q4 l1 l2 l3
      by_cases hpt : pa = t
      · have hbe : ((pa : Int) != (t : Int)) = false := by simp [hpt]
        rw [if_pos hpt, List.append_nil] at HFk
        clear hpt
        go_wp2
        exact ⟨⟨k + 1, nf, La, Lw, ca, cw, by simp, by simp, by simp, by omega, by omega, by rw [HFk.out]; exact HF.out, by rw [HFk.out]; exact HA.out, by rw [HFk.out]; exact HW.out, HAp.out, HBe.out⟩, by simp [intOf]; omega⟩
      · have hbe : ((pa : Int) != (t : Int)) = true := by rw [bne_iff_ne]; omega
        rw [if_neg hpt] at HFk
        clear hpt
        have hz3 := HBe.out.size
        rw [← HB2.out] at hz3
        go_wp2_with (first
          | (at_builtin
             refine wpList_appOw (t := 34) rfl hiI hzI hsI hbI rfl (by decide) rfl (.tmp 58) (.tmp 66) rfl (n := nf) (by rw [List.length_map]; exact HF.out) rfl (owGrow HA.out (alloc_below wr _)) rfl (cellNew wr _ _) rfl (by omega) (by have := (alloc_below wr (.cells #[.int .i64 (pa : Int)] 3)).size; omega) ?_
             intro A8 c8 w8 ho8 hg8 hm8
             have O8 := Lib.hid ho8
             have W8 := Lib.hid (owBeside (owGrow HW.out (alloc_below wr (.cells #[.int .i64 (pa : Int)] 3))) HAp.out hg8)
             have P8 := Lib.hid (apMoved HAp.out hm8 (fun x hx => ((owGrow HW.out (alloc_below wr (.cells #[.int .i64 (pa : Int)] 3))).lt x hx).2))
             have E8 := Lib.hid (Below.grown (HBe.out.alloc (by omega) (.cells #[.int .i64 (pa : Int)] 3)) hg8 (by have := (alloc_below wr (.cells #[.int .i64 (pa : Int)] 3)).size; omega) (owBlk HA.out (by rw [List.length_map]; exact HF.out)))
             have d2 := (World.cell?_of_block (a := ⟨R, 2, none⟩) ((E8.out.block R (HLt.out R (.inl rfl))).trans (HBe.out.block R (HLt.out R (.inl rfl))).symm)).trans hc2
             have d3 := (World.cell?_of_block (a := ⟨gw, k, none⟩) ((E8.out.block gw (HLt.out gw (.inr (.inr (.inr ⟨_, rfl, rfl⟩))))).trans (HBe.out.block gw (HLt.out gw (.inr (.inr (.inr ⟨_, rfl, rfl⟩))))).symm)).trans hcw
             clear ho8 hg8 hm8)
          | (at_builtin
             refine wpList_appOw (t := 35) rfl hiS hzS hsS hbS rfl (by decide) rfl (.tmp 68) (.tmp 76) rfl (n := nf) (by rw [List.length_map]; exact HF.out) rfl (owGrow W8.out (alloc_below w8 _)) rfl (cellNew w8 _ _) rfl (by omega) (by have := (alloc_below w8 (.cells #[.string ⟨pw.toArray⟩] 9)).size; have := E8.out.size; have := HB2.out; omega) ?_
             intro A9 c9 w9 ho9 hg9 hm9
             have O9 := Lib.hid ho9
             have V9 := Lib.hid (owBeside (owGrow O8.out (alloc_below w8 (.cells #[.string ⟨pw.toArray⟩] 9))) (apSymm P8.out) hg9)
             have P9 := Lib.hid (apSymm (apMoved (apSymm P8.out) hm9 (fun x hx => ((owGrow O8.out (alloc_below w8 (.cells #[.string ⟨pw.toArray⟩] 9))).lt x hx).2)))
             have E9 := Lib.hid (Below.grown (E8.out.alloc (by have := E8.out.size; have := HB2.out; omega) (.cells #[.string ⟨pw.toArray⟩] 9)) hg9 (by have := (alloc_below w8 (.cells #[.string ⟨pw.toArray⟩] 9)).size; have := E8.out.size; have := HB2.out; omega) (owBlk W8.out (by rw [List.length_map]; exact HF.out)))
             clear ho9 hg9 hm9))
        exact ⟨⟨k + 1, nf + 1, A8, A9, c8, c9, by simp, by simp, by simp, by omega, by omega, by rw [HFk.out, List.length_append, HF.out]; rfl, by rw [HFk.out, List.map_append]; exact V9.out, by rw [HFk.out, List.map_append]; exact O9.out, P9.out, E9.out⟩, by simp [intOf]; omega⟩
    · have bk : ¬ (k : Int) < (m : Int) := by omega
      obtain rfl : k = m := by omega
      have HFm := Lib.hid (show st.pend.take k = st.pend by rw [HM.out]; exact List.take_length)
      rw [HFm.out] at HF HA HW
      have hbB : base ≤ B2 := by have := HLt.out R (.inl rfl); have := HZ3.out.bR; omega
      have hf1 := HZ.out.frozen 1
      have HZ1 := Lib.hid (HZ3.out.putA (w' := wr) (Aa' := La) (ca' := ca) (na := nf) (as' := (st.pend.filter fun p => decide (p.1 ≠ t)).map (·.1)) (by rw [List.length_map]; exact HF.out) (fun k hk _ => HBe.out.block k (HLt.out k hk)) (by rw [List.map_map]; exact owBase HA.out hbB) (fun x hx => .inr (by rw [← HB2.out]; exact (HA.out.lt x hx).1)))
      have hf2 := HZ1.out.frozen 2
      obtain ⟨ek, ea, ew, _, _, _, _, _, p2, _, _⟩ := HZ1.out.cells
      have HZ2 := Lib.hid (rvPut2 (w' := wr) (Aa' := La) (Aw' := Lw) (ca' := ca) (cw' := cw) (na := nf) (nw := nf) (as' := (st.pend.filter fun p => decide (p.1 ≠ t)).map (·.1)) (ws' := (st.pend.filter fun p => decide (p.1 ≠ t)).map (·.2)) HZ3.out (by rw [List.length_map]; exact HF.out) (by rw [List.length_map]; exact HF.out) (fun k hk => HBe.out.block k (by rw [HB2.out]; exact hk)) (by rw [List.map_map]; exact owBase HA.out hbB) (by rw [List.map_map]; exact owBase HW.out hbB) HAp.out (fun x hx => by rw [← HB2.out]; exact (HA.out.lt x hx).1) (fun x hx => by rw [← HB2.out]; exact (HW.out.lt x hx).1))
      have HC2 := Lib.hid (show Ch (RV R (some ⟨gk, 0, none⟩) Aa Aw) w wr from Ch.trans HC3.out (Ch.grown (HBe.out.mono (by rw [HB2.out]; exact Nat.le_refl _))))
      clear q0 q1 q2 q3 q4 l1 l2 l3
      go_wp2
      go_ret
      rw [HE.out]
      refine ⟨rfl, some ⟨gk, 0, none⟩, La, Lw, ?_, ?_, ?_⟩
      · rw [← HPD.out]; exact HZ2.out
      · intro k hk
        rcases hk with hk | hk | ⟨x, hx, rfl⟩ | ⟨x, hx, rfl⟩
        · exact .inl (.inl hk)
        · exact .inl (.inr (.inl hk))
        · exact .inr (Nat.le_trans HBw.out (HA.out.lt x hx).1)
        · exact .inr (Nat.le_trans HBw.out (HW.out.lt x hx).1)
      · exact Ch.setCell (Ch.setCell HC2.out (p := ⟨R, 1, none⟩) (.inl (.inl rfl)) _) (p := ⟨R, 2, none⟩) (.inl (.inl rfl)) _
end
end Go.Proofs.Ythakdjaaknbmpaa.S13
namespace Go.Proofs.Ythakdjaaknbmpaa.S13
open Cf
open Go.RowKit
set_option linter.unusedVariables false
set_option linter.unusedSimpArgs false
theorem restS_two {P : Program} {ops : Array Oper} {Q : Exit → Act → World → Prop} {S : World → Prop} {i j : Nat} {o p : Oper} {fuel : Nat} {listed : Array Bool} {a : Act} {w : World} (hi : ops[i]? = some o) (hj : ops[j]? = some p) (hr : Region.ready .any ops listed = [i, j]) (hwi : Region.wanted o (yielded ops a.tmps) = true) (hwj : Region.wanted p (yielded ops a.tmps) = true)
    (h : ∀ K : Act → World → Prop, Shut (∀ a' w', S w' → RestS P ops Q S fuel (listed.setIfInBounds i true) a' w' → K a' w') → Oper.wp P o a w K (NoPanic Q))
    (h2 : ∀ K : Act → World → Prop, Shut (∀ a' w', S w' → RestS P ops Q S fuel (listed.setIfInBounds j true) a' w' → K a' w') → Oper.wp P p a w K (NoPanic Q)) : RestS P ops Q S (fuel + 1) listed a w := by
  refine wpAnyH_all hr (by simp) fun x hx => ?_
  simp only [List.mem_cons, List.mem_singleton, List.not_mem_nil, or_false] at hx
  rcases hx with rfl | rfl
  · unfold wpOp
    simp only [hi, hwi, if_true]
    exact .inl (h _ fun a' w' hg hrest => ⟨hg, hrest⟩)
  · unfold wpOp
    simp only [hj, hwj, if_true]
    exact .inl (h2 _ fun a' w' hg hrest => ⟨hg, hrest⟩)
theorem wp_appOw {P : Program} {w : World} {base : Nat} {e t : TypeId} {i0 : TypeInfo} {z : Value} {bytes : Nat} (ht : P.underlying t = some (.slice e)) (hi : P.info? e = some i0) (hz : i0.zero = some z) (hz1 : i0.size = 1) (hz2 : i0.bytes = bytes) (hzc : z.cells.size = 1) (hb16 : bytes ≤ 64)
    {A : Option Addr} {c n c2 : Nat} {ad : Addr} {vs : List Value} {u : Value} {o : Oper} {a : Act} {K : Act → World → Prop} {Q : Exit → Act → World → Prop} (s x : Operand) (ho : o.op = .call { callee := .builtin .append, args := #[s, x], argTypes := #[t, t] })
    (hn : vs.length = n) (hs : a.eval s = .slice A n c) (h : Ow w base e A c vs) (hx : a.eval x = .slice (some ad) 1 c2) (h2 : w.cell? ad = some u) (hu : u.oneCell' = true) (hl : n ≤ 100000) (hbase : base ≤ w.heap.size)
    (hk : ∀ A' c' w', Ow w' base e A' c' (vs ++ [u]) → w.grownBy w' (Value.slice A n c).ownBlock → Moved w A A' → K (a.put o.dst (.slice A' (n + 1) c')) w') : Oper.wp P o a w K Q := by
  subst hn
  obtain ⟨A', c', w', hrun, hown', hg, hm⟩ := app_moved (P := P) (ty := o.type) ht hi hz hz1 hz2 hzc (by omega) h ad 1 c2 [u] (by omega) (by simp) (fun j v hv => by
    match j, hv with
    | 0, hv => simp at hv; subst hv; simpa [Addr.add] using h2) (fun v hv => by simp at hv; subst hv; exact hu) (by unfold maxLen; omega) (by
      have : (vs.length + 1) * bytes ≤ 100001 * 64 := Nat.mul_le_mul (by omega) hb16
      omega) hbase
  unfold Oper.wp execOp
  simp only [ho, resolve, invoke, builtin, Sem.run_bind, Sem.run_pure, Result.andThen_ok, List.map_toArray, List.map_cons, List.map_nil, hs, hx, hrun]
  refine hk A' c' w' ?_ hg hm
  unfold Ow
  rw [List.length_append]
  exact hown'
theorem chGrownBy {F : Nat → Prop} {w w' w2 : World} {row : Option Nat} (h : Ch F w w') (hg : w'.grownBy w2 row) (hF : ∀ k, row = some k → F k ∨ w.heap.size ≤ k) : Ch F w w2 where
  os := hg.os.trans h.os
  tape := hg.tape.trans h.tape
  output := hg.output.trans h.output
  size := Nat.le_trans h.size hg.size
  block := fun k hk hf => (hg.block k (Nat.lt_of_lt_of_le hk h.size) (fun e => by rcases hF k e.symm with h | h; exact hf h; omega)).trans (h.block k hk hf)
section
variable {base R : Nat} {Ak Aa Aw : Option Addr} {st : Dv} {w : World} {i : Nat}
set_option maxRecDepth 20000 in
set_option maxHeartbeats 8000000 in
theorem refWrite_any (h : Rv w base R Ak Aa Aw (raw st)) (hk : Ok st i) (hi : i ≤ 1000) (hl : st.kept.length ≤ 70000) (n : Int) (A2 : Option Addr) (n2 c2 : Nat) (b : List UInt8) (hb : Rd w w.heap.size A2 b) (hn2 : b.length = n2) (hn2b : n2 ≤ 1000) (hoff : ∀ x, A2 = some x → b ≠ [] → ¬ RV R Ak Aa Aw x.block) :
    Calls Try.prog 36 #[.pointer (some ⟨R, 0, none⟩), .int .i64 n, .slice A2 n2 c2] w fun e w' => e = .returned (.int .i64 (dvWrite st n b).1) ∧ Od base R w (RV R Ak Aa Aw) (dvWrite st n b).2 w' := by
  have H := Lib.hid h
  have HK := Lib.hid hk
  have HB := Lib.hid hb
  have HBl := Lib.hid hn2
  have HOff := Lib.hid hoff
  obtain ⟨ck, ca, cw, l1, l2, l3, q0, q1, q2, q3, q4⟩ := h.cells
  have hc0 : w.cell? ⟨R, 0, none⟩ = some (.slice Ak st.kept.length ck) := q0
  clear h hk hb hoff l1 l2 l3 q0 q1 q2 q3 q4
  by_cases h1 : n < 0
  · have HE := Lib.hid (show dvWrite st n b = (2, st) by unfold dvWrite; rw [if_pos (by unfold inR; omega)])
    clear hn2
    go_enter Try.func36, Try.ntmps36
    go_wp2
    go_ret
    rw [HE.out]
    exact ⟨rfl, od_same H.out (Ch.refl _ _)⟩
  by_cases h2 : n ≥ (st.kept.length : Int)
  · have HE := Lib.hid (show dvWrite st n b = (2, st) by unfold dvWrite; rw [if_pos (by unfold inR; omega)])
    clear hn2
    go_enter Try.func36, Try.ntmps36
    go_wp2
    go_ret
    rw [HE.out]
    exact ⟨rfl, od_same H.out (Ch.refl _ _)⟩
  by_cases h3 : (n2 : Int) > 512
  · have HE := Lib.hid (show dvWrite st n b = (2, st) by unfold dvWrite; rw [if_pos (.inr (by omega))])
    clear hn2
    go_enter Try.func36, Try.ntmps36
    go_wp2
    go_ret
    rw [HE.out]
    exact ⟨rfl, od_same H.out (Ch.refl _ _)⟩
  obtain ⟨t, rfl⟩ : ∃ t : Nat, n = (t : Int) := ⟨n.toNat, by omega⟩
  have ht : t < st.kept.length := by omega
  have bt : (t : Int) < (st.kept.length : Int) := by omega
  have hbl5 : n2 ≤ 512 := by omega
  clear hn2
  go_enter Try.func36, Try.ntmps36
  go_wp2_with fail
  refine (refOn_any H.out HK.out).mono ?_
  rintro e w1 ⟨rfl, hz, hc⟩
  have HZ := Lib.hid hz
  have HC := Lib.hid hc
  clear hz hc
  cases hon : isOn st with
  | false =>
    have HE := Lib.hid (show dvWrite st (t : Int) b = (10, st) by
      unfold dvWrite
      rw [if_neg (by unfold inR; have := HBl.out; omega), hon]
      rfl)
    have HT := Lib.hid (tick_off hon)
    clear hon
    go_wp2
    go_ret
    rw [HE.out]
    exact ⟨rfl, od_same (HT.out ▸ HZ.out) HC.out⟩
  | true =>
    obtain ⟨s, hs⟩ : ∃ s, s = tick st := ⟨_, rfl⟩
    have HKt := Lib.hid HK.out.tick
    have HE := Lib.hid (show dvWrite st (t : Int) b = (0, { s with pend := s.pend ++ [(t, pad512 b)] }) by
      unfold dvWrite
      rw [if_neg (by unfold inR; have := HBl.out; omega), hon, hs, tick_pend]
      rfl)
    rw [← hs] at HZ HKt
    clear hs HK hon
    obtain ⟨m, hm⟩ : ∃ m, m = s.pend.length := ⟨_, rfl⟩
    have HM := Lib.hid hm
    have hml : m ≤ 1000 := by have := HKt.out.few; omega
    clear hm
    obtain ⟨dk, da, dw, hR0, ok0, oa0, ow0⟩ := HZ.out.ex
    have OA := Lib.hid oa0
    have hc1 : w1.cell? ⟨R, 1, none⟩ = some (.slice Aa m da) := by rw [HM.out]; have := cell_of_row w1 R 1 _ _ (0, 0) hR0; simpa [DzC, raw] using this
    have hbw : base ≤ w1.heap.size := by have := (HZ.out.lt R (.inl rfl)); omega
    clear hR0 ok0 oa0 ow0
    obtain ⟨iI, hiI, hzI, hsI, hbI⟩ := info_parts infoI
    obtain ⟨iS, hiS, hzS, hsS, hbS⟩ := info_parts infoS
    go_wp2_with (first
      | (at_builtin
         refine wpList_appOw (t := 34) rfl hiI hzI hsI hbI rfl (by decide) rfl (.tmp 30) (.tmp 32) rfl (n := m) (by rw [List.length_map, HM.out]; simp [raw]) rfl (owGrow OA.out (alloc_below w1 _)) rfl (cellNew w1 _ _) rfl (by omega) (by have := (alloc_below w1 (.cells #[.int .i64 (t : Int)] 3)).size; omega) ?_
         intro A8 c8 w8 ho8 hg8 hm8
         have hsz := (alloc_below w1 (.cells #[.int .i64 (t : Int)] 3)).size
         have O8 := Lib.hid ho8
         have M8 := Lib.hid (show ∀ x, A8 = some x → Aa = some x ∨ w1.heap.size ≤ x.block from fun x hx => (moved_or hm8 x hx).imp id (fun h => by omega))
         have C8 := Lib.hid (chGrownBy (Ch.trans HC.out (Ch.grown (alloc_below w1 (.cells #[.int .i64 (t : Int)] 3)))) hg8 (fun k hk => by
           obtain ⟨x, hx, rfl⟩ := own_blk hk.symm
           exact .inl (.inr (.inr (.inl ⟨x, hx, rfl⟩)))))
         have hk8 : ∀ k, RV R Ak Aa Aw k → (∀ x, Aa = some x → x.block ≠ k) → w8.heap[k]? = w1.heap[k]? := fun k hk hne => by
           have hlt := (HZ.out.lt k hk).2
           refine (hg8.block k (by omega) (fun e => ?_)).trans ((alloc_below w1 (.cells #[.int .i64 (t : Int)] 3)).block k hlt)
           obtain ⟨x, hx, hxk⟩ := own_blk e
           exact hne x hx hxk
         have X8 := Lib.hid (HZ.out.putA (w' := w8) (Aa' := A8) (ca' := c8) (na := m + 1) (as' := s.pend.map (·.1) ++ [t]) (by rw [List.length_append, List.length_map, HM.out]; rfl) hk8 (by rw [List.map_append]; exact O8.out) M8.out)
         have Y8 := Lib.hid (show w8.cell? ⟨R, 1, none⟩ = some (.slice Aa m da) ∧ w8.frozen? ⟨R, 1, none⟩ = false from
           ⟨(World.cell?_of_block (a := ⟨R, 1, none⟩) (hk8 R (.inl rfl) (fun x hx => HZ.out.na x hx))).trans hc1, (World.frozen?_of_block (a := ⟨R, 1, none⟩) (hk8 R (.inl rfl) (fun x hx => HZ.out.na x hx))).trans (HZ.out.frozen 1)⟩)
         have y1 := Y8.out.1
         have y2 := Y8.out.2
         clear ho8 hg8 hm8 hk8))
    have CA := Lib.hid (Ch.setCell C8.out (p := ⟨R, 1, none⟩) (.inl (.inl rfl)) (.slice A8 (m + 1) c8))
    have HW1 := Lib.hid HC.out.size
    generalize w8.setCell ⟨R, 1, none⟩ (.slice A8 (m + 1) c8) = wa at X8 CA ⊢
    clear O8 Y8 y1 y2 C8 HZ HC OA hc1 hbw hsz
    have GD := Lib.hid (show Grown wa wa.drew from (Below.refl _ wa).drew)
    have X := Lib.hid (X8.out.grow GD.out)
    have CW := Lib.hid (Ch.trans CA.out (Ch.grown GD.out))
    generalize hwd : wa.drew = wd at X CW
    have hRlt := (X.out.lt R (.inl rfl))
    obtain ⟨ek, ea, ew, hR1, ok1, oa1, ow1⟩ := X.out.ex
    have hq2 : wd.cell? ⟨R, 2, none⟩ = some (.slice Aw m ew) := by rw [HM.out]; have := cell_of_row wd R 2 _ _ (0, 0) hR1; simpa [DzC, raw] using this
    have B1 := Lib.hid (rd_ch13 HB.out CW.out HOff.out)
    obtain ⟨SB, hSB⟩ : ∃ S : ByteArray, S = ⟨b.toArray⟩ := ⟨_, rfl⟩
    have HSB := Lib.hid hSB
    clear hSB hR1 ok1 oa1 GD X8 CA
    obtain ⟨z, hz⟩ : ∃ z, z = 512 - n2 := ⟨_, rfl⟩
    have hz2 : (512 : Int) - (n2 : Int) = (z : Int) := by omega
    have HPd := Lib.hid (show pad512 b = b ++ List.replicate z 0 by unfold pad512; rw [HBl.out, hz])
    have hzle : z ≤ 512 := by omega
    clear hz
    have GA := Lib.hid (alloc_below wd (.cells (bvs (List.replicate z 0)).toArray 5))
    have RA := Lib.hid ((Row.new wd (List.replicate z (0 : UInt8))).rd (B := (wd.alloc (.cells (bvs (List.replicate z 0)).toArray 5)).heap.size) (by simp))
    have hmk := mk22 z (by omega) wd
    obtain ⟨gz, hgz⟩ : ∃ g, g = wd.heap.size := ⟨_, rfl⟩
    have Hgz := Lib.hid (show ∀ k, RV R Ak A8 Aw k → k ≠ gz from fun k hk e => by have := (X.out.lt k hk).2; omega)
    rw [← hgz] at RA hmk
    clear hgz
    generalize wd.alloc _ = w2 at GA RA hmk
    have X2 := Lib.hid (X.out.grow GA.out)
    have OW2 := Lib.hid (owGrow ow1 GA.out)
    have CW2 := Lib.hid (Ch.trans CW.out (Ch.grown GA.out))
    have B2 := Lib.hid (B1.out.grow GA.out)
    have hq22 : w2.cell? ⟨R, 2, none⟩ = some (.slice Aw m ew) := (GA.out.cell (p := ⟨R, 2, none⟩) hRlt.2).trans hq2
    have hq23 : ∀ o : Obj, (w2.alloc o).cell? ⟨R, 2, none⟩ = some (.slice Aw m ew) := fun o => ((alloc_below w2 o).cell (p := ⟨R, 2, none⟩) (lt_of_cell hq22)).trans hq22
    have HOf2 := Lib.hid (show ∀ x, A2 = some x → b ≠ [] → ¬ RV R Ak A8 Aw x.block from fun x hx hl hr => by
      rcases hr with h | h | ⟨y, hy, hyx⟩ | h
      · exact HOff.out x hx hl (.inl h)
      · exact HOff.out x hx hl (.inr (.inl h))
      · rcases M8.out y hy with h | h
        · exact HOff.out x hx hl (.inr (.inr (.inl ⟨y, h, hyx⟩)))
        · rcases HB.out with e | ⟨b5, o5, e, hb5, _⟩
          · exact hl e
          · rw [e] at hx; simp only [Option.some.injEq] at hx; subst hx; simp only at hyx; have := HW1.out; omega
      · exact HOff.out x hx hl (.inr (.inr (.inr h))))
    have hcb : ∀ v, Rd v v.heap.size A2 b → (convert 38 9 (.slice A2 n2 c2)).run Try.prog v = .ok (.string SB) v := fun v h => by
      have := conv h c2
      rw [HBl.out] at this
      rw [HSB.out]; exact this
    obtain ⟨SZ, hSZ⟩ : ∃ S : ByteArray, S = ⟨(List.replicate z (0 : UInt8)).toArray⟩ := ⟨_, rfl⟩
    have HSZ := Lib.hid hSZ
    clear hSZ
    have HS := Lib.hid (show ∀ v, Ch (RV R Ak A8 Aw) w2 v → (convert 38 9 (.slice A2 n2 c2)).run Try.prog v = .ok (.string SB) v ∧ (convert 38 9 (.slice (some ⟨gz, 0, none⟩) z z)).run Try.prog v = .ok (.string SZ) v from fun v hv => by
      refine ⟨hcb v (rd_ch13 B2.out hv HOf2.out), ?_⟩
      have h5 : Rd v v.heap.size (some ⟨gz, 0, none⟩) (List.replicate z 0) := rd_ch13 RA.out hv (fun x hx _ hf => by
        simp only [Option.some.injEq] at hx
        subst hx
        exact Hgz.out _ hf rfl)
      have := conv h5 z
      rw [List.length_replicate] at this
      rw [HSZ.out]; exact this)
    have SV := Lib.hid (hcb wd B1.out)
    clear hcb
    obtain ⟨PD, hPD⟩ : ∃ P : List UInt8, P = pad512 b := ⟨_, rfl⟩
    have HPD := Lib.hid hPD
    have hadd : ∀ V : World, (Op.stringOp .add SB SZ).run Try.prog V = .ok (.string ⟨PD.toArray⟩) V := fun V => by
      rw [hPD, HPd.out, HSB.out, HSZ.out]
      exact addS b (List.replicate z 0) (by rw [HBl.out, List.length_replicate]; omega) V
    clear hPD
    have hml2 := OW2.out
    have HLn := Lib.hid (show (((({ raw s with at_ := s.pend.map (·.1) ++ [t] } : Rs).what).map sv).length = m) by rw [List.length_map, HM.out]; simp [raw])
    have hbw2 : base ≤ w2.heap.size := by have := GA.out.size; omega
    clear hml2 ow1 B1 B2 RA Hgz HOf2
    refine restS_begin (fun v : World => (convert 38 9 (.slice A2 n2 c2)).run Try.prog v = .ok (.string SB) v) (by kernel_rfl) ?_
    rw [hwd]
    clear hwd
    have hwz : IntKind.i64.wrap (z : Int) = (z : Int) := by rw [IntKind.wrap_i64]; omega
    refine restS_take (i := 0) SV.out rfl (by kernel_rfl) (by kernel_rfl) (by kernel_rfl) (by rfl) (fun v hv => by obtain v1 := hv; go_simp; try with_reducible rfl) ?_
    try simp only [Act.put, List.setIfInBounds_toArray, List.set_cons_zero, List.set_cons_succ]
    refine restS_take (i := 1) SV.out rfl (by kernel_rfl) (by kernel_rfl) (by kernel_rfl) (by rfl) (fun v hv => by obtain v1 := hv; go_simp; try with_reducible rfl) ?_
    try simp only [Act.put, List.setIfInBounds_toArray, List.set_cons_zero, List.set_cons_succ]
    refine restS_take (i := 2) SV.out rfl (by kernel_rfl) (by kernel_rfl) (by kernel_rfl) (by rfl) (fun v hv => by obtain v1 := hv; go_simp; try with_reducible rfl) ?_
    try simp only [Act.put, List.setIfInBounds_toArray, List.set_cons_zero, List.set_cons_succ]
    refine restS_take (i := 3) SV.out rfl (by kernel_rfl) (by kernel_rfl) (by kernel_rfl) (by rfl) (fun v hv => by obtain v1 := hv; go_simp; try with_reducible rfl) ?_
    try simp only [Act.put, List.setIfInBounds_toArray, List.set_cons_zero, List.set_cons_succ]
    refine restS_take (i := 5) SV.out rfl (by kernel_rfl) (by kernel_rfl) (by kernel_rfl) (by rfl) (fun v hv => by obtain v1 := hv; go_simp; try with_reducible rfl) ?_
    try simp only [Act.put, List.setIfInBounds_toArray, List.set_cons_zero, List.set_cons_succ]
    refine restS_take (i := 6) SV.out rfl (by kernel_rfl) (by kernel_rfl) (by kernel_rfl) (by rfl) (fun v hv => by obtain v1 := hv; go_simp; try with_reducible rfl) ?_
    try simp only [Act.put, List.setIfInBounds_toArray, List.set_cons_zero, List.set_cons_succ]
    refine restS_take (i := 7) SV.out rfl (by kernel_rfl) (by kernel_rfl) (by kernel_rfl) (by rfl) (fun v hv => by obtain v1 := hv; go_simp; try with_reducible rfl) ?_
    try simp only [Act.put, List.setIfInBounds_toArray, List.set_cons_zero, List.set_cons_succ]
    refine restS_take (i := 8) SV.out rfl (by kernel_rfl) (by kernel_rfl) (by kernel_rfl) (by rfl) (fun v hv => by obtain v1 := hv; go_simp; try with_reducible rfl) ?_
    try simp only [Act.put, List.setIfInBounds_toArray, List.set_cons_zero, List.set_cons_succ]
    refine restS_take (i := 9) SV.out rfl (by kernel_rfl) (by kernel_rfl) (by kernel_rfl) (by rfl) (fun v hv => by obtain v1 := hv; go_simp; try with_reducible rfl) ?_
    try simp only [Act.put, List.setIfInBounds_toArray, List.set_cons_zero, List.set_cons_succ]
    refine restS_two (i := 4) (j := 10) rfl rfl (by kernel_rfl) (by rfl) (by rfl) (fun K hK => ?_) (fun K hK => ?_)
    · go_simp
      refine hK.out _ _ SV.out ?_
      clear hK K
      try simp only [Act.put, List.setIfInBounds_toArray, List.set_cons_zero, List.set_cons_succ]
      refine restS_lone (i := 10) rfl (by kernel_rfl) (by rfl) (fun K hK => ?_)
      go_simp
      refine hK.out _ _ (HS.out w2 (Ch.refl _ _)).1 ?_
      clear hK K
      try simp only [Act.put, List.setIfInBounds_toArray, List.set_cons_zero, List.set_cons_succ]
      refine restS_mono (S' := fun v => (convert 38 9 (.slice A2 n2 c2)).run Try.prog v = .ok (.string SB) v ∧ (convert 38 9 (.slice (some ⟨gz, 0, none⟩) z z)).run Try.prog v = .ok (.string SZ) v) (fun v hv => hv.1) ?_
      refine restS_take (i := 11) (HS.out w2 (Ch.refl _ _)) rfl (by kernel_rfl) (by kernel_rfl) (by kernel_rfl) (by rfl) (fun v hv => by obtain ⟨v1, v3⟩ := hv; go_simp; try with_reducible rfl) ?_
      try simp only [Act.put, List.setIfInBounds_toArray, List.set_cons_zero, List.set_cons_succ]
      refine restS_take (i := 12) (HS.out w2 (Ch.refl _ _)) rfl (by kernel_rfl) (by kernel_rfl) (by kernel_rfl) (by rfl) (fun v hv => by obtain ⟨v1, v3⟩ := hv; go_simp; try with_reducible rfl) ?_
      try simp only [Act.put, List.setIfInBounds_toArray, List.set_cons_zero, List.set_cons_succ]
      refine restS_lone (i := 13) rfl (by kernel_rfl) (by rfl) (fun K hK => ?_)
      go_simp
      refine hK.out _ _ (HS.out _ (Ch.grown (alloc_below w2 _))) ?_
      clear hK K
      try simp only [Act.put, List.setIfInBounds_toArray, List.set_cons_zero, List.set_cons_succ]
      refine restS_lone (i := 14) rfl (by kernel_rfl) (by rfl) (fun K hK => ?_)
      refine wp_appOw (t := 35) rfl hiS hzS hsS hbS rfl (by decide) (.tmp 40) (.tmp 49) rfl (n := m) HLn.out rfl (owGrow OW2.out (alloc_below w2 _)) rfl (cellNew w2 _ _) rfl (by omega) (by have := (alloc_below w2 (.cells #[.string ⟨PD.toArray⟩] 9)).size; omega) ?_
      intro A9 c9 w9 ho9 hg9 hm9
      have hsz3 := (alloc_below w2 (.cells #[.string ⟨PD.toArray⟩] 9)).size
      have hF9 : ∀ (F : Nat → Prop), (∀ x, Aw = some x → F x.block) → ∀ k, (Value.slice Aw m ew).ownBlock = some k → F k := fun F hF k hk => by
        obtain ⟨x, hx, rfl⟩ := own_blk hk.symm
        exact hF x hx
      have G9 := Lib.hid (chGrownBy (F := RV R Ak A8 Aw) (Ch.grown (alloc_below w2 (.cells #[.string ⟨PD.toArray⟩] 9))) hg9 (fun k hk => .inl (hF9 _ (fun x hx => .inr (.inr (.inr ⟨x, hx, rfl⟩))) k hk)))
      have V9 := Lib.hid (chGrownBy (Ch.trans CW2.out (Ch.grown (alloc_below w2 (.cells #[.string ⟨PD.toArray⟩] 9)))) hg9 (fun k hk => .inl (hF9 _ (fun x hx => .inr (.inr (.inr ⟨x, hx, rfl⟩))) k hk)))
      have hk9 : ∀ k, RV R Ak A8 Aw k → (∀ x, Aw = some x → x.block ≠ k) → w9.heap[k]? = w2.heap[k]? := fun k hk hne => by
        have hlt := (X2.out.lt k hk).2
        refine (hg9.block k (by omega) (fun e => ?_)).trans ((alloc_below w2 (.cells #[.string ⟨PD.toArray⟩] 9)).block k hlt)
        obtain ⟨x, hx, hxk⟩ := own_blk e
        exact hne x hx hxk
      have M9 := Lib.hid (show ∀ x, A9 = some x → Aw = some x ∨ w2.heap.size ≤ x.block from fun x hx => (moved_or hm9 x hx).imp id (fun h => by omega))
      have X9 := Lib.hid (X2.out.putW (w' := w9) (Aw' := A9) (cw' := c9) (nw := m + 1) (ws' := s.pend.map (·.2) ++ [PD]) (by rw [List.length_append, List.length_map, HM.out]; rfl) hk9 (by rw [List.map_append]; exact ho9) M9.out)
      have y1 : w9.cell? ⟨R, 2, none⟩ = some (.slice Aw m ew) := (World.cell?_of_block (a := ⟨R, 2, none⟩) (hk9 R (.inl rfl) (fun x hx => X2.out.nw x hx))).trans hq22
      have y2 : w9.frozen? ⟨R, 2, none⟩ = false := (World.frozen?_of_block (a := ⟨R, 2, none⟩) (hk9 R (.inl rfl) (fun x hx => X2.out.nw x hx))).trans (X2.out.frozen 2)
      refine hK.out _ _ (HS.out _ G9.out) ?_
      clear hK K ho9 hg9 hm9 hk9 hF9
      try simp only [Act.put, List.setIfInBounds_toArray, List.set_cons_zero, List.set_cons_succ]
      refine restS_take (i := 15) (HS.out _ G9.out) rfl (by kernel_rfl) (by kernel_rfl) (by kernel_rfl) (by rfl) (fun v hv => by obtain ⟨v1, v3⟩ := hv; go_simp; try with_reducible rfl) ?_
      try simp only [Act.put, List.setIfInBounds_toArray, List.set_cons_zero, List.set_cons_succ]
      refine restS_take (i := 16) (HS.out _ G9.out) rfl (by kernel_rfl) (by kernel_rfl) (by kernel_rfl) (by rfl) (fun v hv => by obtain ⟨v1, v3⟩ := hv; go_simp; try with_reducible rfl) ?_
      try simp only [Act.put, List.setIfInBounds_toArray, List.set_cons_zero, List.set_cons_succ]
      refine restS_lone (i := 17) rfl (by kernel_rfl) (by rfl) (fun K hK => ?_)
      go_simp
      refine hK.out _ _ (HS.out _ (Ch.setCell G9.out (p := ⟨R, 2, none⟩) (.inl (.inl rfl)) _)) ?_
      clear hK K
      try simp only [Act.put, List.setIfInBounds_toArray, List.set_cons_zero, List.set_cons_succ]
      refine restS_done (by kernel_rfl) ?_
      clear y1 y2 hsz3
      go_wp2
      go_ret
      rw [HE.out]
      refine ⟨rfl, Ak, A8, A9, ?_, ?_, Ch.setCell V9.out (p := ⟨R, 2, none⟩) (.inl (.inl rfl)) _⟩
      · rw [show (raw { s with pend := s.pend ++ [(t, pad512 b)] }) = (⟨s.kept, List.map (fun p : Nat × List UInt8 => p.1) s.pend ++ [t], List.map (fun p : Nat × List UInt8 => p.2) s.pend ++ [PD], s.count, s.calls⟩ : Rs) by rw [HPD.out]; simp [raw]]
        exact X9.out
      · intro k hk
        have hw1 := HW1.out
        have hw2 := CW2.out.size
        rcases hk with hk | hk | ⟨x, hx, rfl⟩ | ⟨x, hx, rfl⟩
        · exact .inl (.inl hk)
        · exact .inl (.inr (.inl hk))
        · rcases M8.out x hx with h | h
          · exact .inl (.inr (.inr (.inl ⟨x, h, rfl⟩)))
          · exact .inr (by omega)
        · rcases M9.out x hx with h | h
          · exact .inl (.inr (.inr (.inr ⟨x, h, rfl⟩)))
          · exact .inr (by omega)
    · go_simp
      refine hK.out _ _ (HS.out w2 (Ch.refl _ _)).1 ?_
      clear hK K
      try simp only [Act.put, List.setIfInBounds_toArray, List.set_cons_zero, List.set_cons_succ]
      refine restS_mono (S' := fun v => (convert 38 9 (.slice A2 n2 c2)).run Try.prog v = .ok (.string SB) v ∧ (convert 38 9 (.slice (some ⟨gz, 0, none⟩) z z)).run Try.prog v = .ok (.string SZ) v) (fun v hv => hv.1) ?_
      refine restS_take (i := 11) (HS.out w2 (Ch.refl _ _)) rfl (by kernel_rfl) (by kernel_rfl) (by kernel_rfl) (by rfl) (fun v hv => by obtain ⟨v1, v3⟩ := hv; go_simp; try with_reducible rfl) ?_
      try simp only [Act.put, List.setIfInBounds_toArray, List.set_cons_zero, List.set_cons_succ]
      refine restS_take (i := 12) (HS.out w2 (Ch.refl _ _)) rfl (by kernel_rfl) (by kernel_rfl) (by kernel_rfl) (by rfl) (fun v hv => by obtain ⟨v1, v3⟩ := hv; go_simp; try with_reducible rfl) ?_
      try simp only [Act.put, List.setIfInBounds_toArray, List.set_cons_zero, List.set_cons_succ]
      refine restS_two (i := 4) (j := 13) rfl rfl (by kernel_rfl) (by rfl) (by rfl) (fun K hK => ?_) (fun K hK => ?_)
      · go_simp
        refine hK.out _ _ (HS.out w2 (Ch.refl _ _)) ?_
        clear hK K
        try simp only [Act.put, List.setIfInBounds_toArray, List.set_cons_zero, List.set_cons_succ]
        refine restS_lone (i := 13) rfl (by kernel_rfl) (by rfl) (fun K hK => ?_)
        go_simp
        refine hK.out _ _ (HS.out _ (Ch.grown (alloc_below w2 _))) ?_
        clear hK K
        try simp only [Act.put, List.setIfInBounds_toArray, List.set_cons_zero, List.set_cons_succ]
        refine restS_lone (i := 14) rfl (by kernel_rfl) (by rfl) (fun K hK => ?_)
        refine wp_appOw (t := 35) rfl hiS hzS hsS hbS rfl (by decide) (.tmp 40) (.tmp 49) rfl (n := m) HLn.out rfl (owGrow OW2.out (alloc_below w2 _)) rfl (cellNew w2 _ _) rfl (by omega) (by have := (alloc_below w2 (.cells #[.string ⟨PD.toArray⟩] 9)).size; omega) ?_
        intro A9 c9 w9 ho9 hg9 hm9
        have hsz3 := (alloc_below w2 (.cells #[.string ⟨PD.toArray⟩] 9)).size
        have hF9 : ∀ (F : Nat → Prop), (∀ x, Aw = some x → F x.block) → ∀ k, (Value.slice Aw m ew).ownBlock = some k → F k := fun F hF k hk => by
          obtain ⟨x, hx, rfl⟩ := own_blk hk.symm
          exact hF x hx
        have G9 := Lib.hid (chGrownBy (F := RV R Ak A8 Aw) (Ch.grown (alloc_below w2 (.cells #[.string ⟨PD.toArray⟩] 9))) hg9 (fun k hk => .inl (hF9 _ (fun x hx => .inr (.inr (.inr ⟨x, hx, rfl⟩))) k hk)))
        have V9 := Lib.hid (chGrownBy (Ch.trans CW2.out (Ch.grown (alloc_below w2 (.cells #[.string ⟨PD.toArray⟩] 9)))) hg9 (fun k hk => .inl (hF9 _ (fun x hx => .inr (.inr (.inr ⟨x, hx, rfl⟩))) k hk)))
        have hk9 : ∀ k, RV R Ak A8 Aw k → (∀ x, Aw = some x → x.block ≠ k) → w9.heap[k]? = w2.heap[k]? := fun k hk hne => by
          have hlt := (X2.out.lt k hk).2
          refine (hg9.block k (by omega) (fun e => ?_)).trans ((alloc_below w2 (.cells #[.string ⟨PD.toArray⟩] 9)).block k hlt)
          obtain ⟨x, hx, hxk⟩ := own_blk e
          exact hne x hx hxk
        have M9 := Lib.hid (show ∀ x, A9 = some x → Aw = some x ∨ w2.heap.size ≤ x.block from fun x hx => (moved_or hm9 x hx).imp id (fun h => by omega))
        have X9 := Lib.hid (X2.out.putW (w' := w9) (Aw' := A9) (cw' := c9) (nw := m + 1) (ws' := s.pend.map (·.2) ++ [PD]) (by rw [List.length_append, List.length_map, HM.out]; rfl) hk9 (by rw [List.map_append]; exact ho9) M9.out)
        have y1 : w9.cell? ⟨R, 2, none⟩ = some (.slice Aw m ew) := (World.cell?_of_block (a := ⟨R, 2, none⟩) (hk9 R (.inl rfl) (fun x hx => X2.out.nw x hx))).trans hq22
        have y2 : w9.frozen? ⟨R, 2, none⟩ = false := (World.frozen?_of_block (a := ⟨R, 2, none⟩) (hk9 R (.inl rfl) (fun x hx => X2.out.nw x hx))).trans (X2.out.frozen 2)
        refine hK.out _ _ (HS.out _ G9.out) ?_
        clear hK K ho9 hg9 hm9 hk9 hF9
        try simp only [Act.put, List.setIfInBounds_toArray, List.set_cons_zero, List.set_cons_succ]
        refine restS_take (i := 15) (HS.out _ G9.out) rfl (by kernel_rfl) (by kernel_rfl) (by kernel_rfl) (by rfl) (fun v hv => by obtain ⟨v1, v3⟩ := hv; go_simp; try with_reducible rfl) ?_
        try simp only [Act.put, List.setIfInBounds_toArray, List.set_cons_zero, List.set_cons_succ]
        refine restS_take (i := 16) (HS.out _ G9.out) rfl (by kernel_rfl) (by kernel_rfl) (by kernel_rfl) (by rfl) (fun v hv => by obtain ⟨v1, v3⟩ := hv; go_simp; try with_reducible rfl) ?_
        try simp only [Act.put, List.setIfInBounds_toArray, List.set_cons_zero, List.set_cons_succ]
        refine restS_lone (i := 17) rfl (by kernel_rfl) (by rfl) (fun K hK => ?_)
        go_simp
        refine hK.out _ _ (HS.out _ (Ch.setCell G9.out (p := ⟨R, 2, none⟩) (.inl (.inl rfl)) _)) ?_
        clear hK K
        try simp only [Act.put, List.setIfInBounds_toArray, List.set_cons_zero, List.set_cons_succ]
        refine restS_done (by kernel_rfl) ?_
        clear y1 y2 hsz3
        go_wp2
        go_ret
        rw [HE.out]
        refine ⟨rfl, Ak, A8, A9, ?_, ?_, Ch.setCell V9.out (p := ⟨R, 2, none⟩) (.inl (.inl rfl)) _⟩
        · rw [show (raw { s with pend := s.pend ++ [(t, pad512 b)] }) = (⟨s.kept, List.map (fun p : Nat × List UInt8 => p.1) s.pend ++ [t], List.map (fun p : Nat × List UInt8 => p.2) s.pend ++ [PD], s.count, s.calls⟩ : Rs) by rw [HPD.out]; simp [raw]]
          exact X9.out
        · intro k hk
          have hw1 := HW1.out
          have hw2 := CW2.out.size
          rcases hk with hk | hk | ⟨x, hx, rfl⟩ | ⟨x, hx, rfl⟩
          · exact .inl (.inl hk)
          · exact .inl (.inr (.inl hk))
          · rcases M8.out x hx with h | h
            · exact .inl (.inr (.inr (.inl ⟨x, h, rfl⟩)))
            · exact .inr (by omega)
          · rcases M9.out x hx with h | h
            · exact .inl (.inr (.inr (.inr ⟨x, h, rfl⟩)))
            · exact .inr (by omega)
      · go_simp
        refine hK.out _ _ (HS.out _ (Ch.grown (alloc_below w2 _))) ?_
        clear hK K
        try simp only [Act.put, List.setIfInBounds_toArray, List.set_cons_zero, List.set_cons_succ]
        refine restS_lone (i := 4) rfl (by kernel_rfl) (by rfl) (fun K hK => ?_)
        go_simp
        refine hK.out _ _ (HS.out _ (Ch.grown (alloc_below w2 _))) ?_
        clear hK K
        try simp only [Act.put, List.setIfInBounds_toArray, List.set_cons_zero, List.set_cons_succ]
        refine restS_lone (i := 14) rfl (by kernel_rfl) (by rfl) (fun K hK => ?_)
        refine wp_appOw (t := 35) rfl hiS hzS hsS hbS rfl (by decide) (.tmp 40) (.tmp 49) rfl (n := m) HLn.out rfl (owGrow OW2.out (alloc_below w2 _)) rfl (cellNew w2 _ _) rfl (by omega) (by have := (alloc_below w2 (.cells #[.string ⟨PD.toArray⟩] 9)).size; omega) ?_
        intro A9 c9 w9 ho9 hg9 hm9
        have hsz3 := (alloc_below w2 (.cells #[.string ⟨PD.toArray⟩] 9)).size
        have hF9 : ∀ (F : Nat → Prop), (∀ x, Aw = some x → F x.block) → ∀ k, (Value.slice Aw m ew).ownBlock = some k → F k := fun F hF k hk => by
          obtain ⟨x, hx, rfl⟩ := own_blk hk.symm
          exact hF x hx
        have G9 := Lib.hid (chGrownBy (F := RV R Ak A8 Aw) (Ch.grown (alloc_below w2 (.cells #[.string ⟨PD.toArray⟩] 9))) hg9 (fun k hk => .inl (hF9 _ (fun x hx => .inr (.inr (.inr ⟨x, hx, rfl⟩))) k hk)))
        have V9 := Lib.hid (chGrownBy (Ch.trans CW2.out (Ch.grown (alloc_below w2 (.cells #[.string ⟨PD.toArray⟩] 9)))) hg9 (fun k hk => .inl (hF9 _ (fun x hx => .inr (.inr (.inr ⟨x, hx, rfl⟩))) k hk)))
        have hk9 : ∀ k, RV R Ak A8 Aw k → (∀ x, Aw = some x → x.block ≠ k) → w9.heap[k]? = w2.heap[k]? := fun k hk hne => by
          have hlt := (X2.out.lt k hk).2
          refine (hg9.block k (by omega) (fun e => ?_)).trans ((alloc_below w2 (.cells #[.string ⟨PD.toArray⟩] 9)).block k hlt)
          obtain ⟨x, hx, hxk⟩ := own_blk e
          exact hne x hx hxk
        have M9 := Lib.hid (show ∀ x, A9 = some x → Aw = some x ∨ w2.heap.size ≤ x.block from fun x hx => (moved_or hm9 x hx).imp id (fun h => by omega))
        have X9 := Lib.hid (X2.out.putW (w' := w9) (Aw' := A9) (cw' := c9) (nw := m + 1) (ws' := s.pend.map (·.2) ++ [PD]) (by rw [List.length_append, List.length_map, HM.out]; rfl) hk9 (by rw [List.map_append]; exact ho9) M9.out)
        have y1 : w9.cell? ⟨R, 2, none⟩ = some (.slice Aw m ew) := (World.cell?_of_block (a := ⟨R, 2, none⟩) (hk9 R (.inl rfl) (fun x hx => X2.out.nw x hx))).trans hq22
        have y2 : w9.frozen? ⟨R, 2, none⟩ = false := (World.frozen?_of_block (a := ⟨R, 2, none⟩) (hk9 R (.inl rfl) (fun x hx => X2.out.nw x hx))).trans (X2.out.frozen 2)
        refine hK.out _ _ (HS.out _ G9.out) ?_
        clear hK K ho9 hg9 hm9 hk9 hF9
        try simp only [Act.put, List.setIfInBounds_toArray, List.set_cons_zero, List.set_cons_succ]
        refine restS_take (i := 15) (HS.out _ G9.out) rfl (by kernel_rfl) (by kernel_rfl) (by kernel_rfl) (by rfl) (fun v hv => by obtain ⟨v1, v3⟩ := hv; go_simp; try with_reducible rfl) ?_
        try simp only [Act.put, List.setIfInBounds_toArray, List.set_cons_zero, List.set_cons_succ]
        refine restS_take (i := 16) (HS.out _ G9.out) rfl (by kernel_rfl) (by kernel_rfl) (by kernel_rfl) (by rfl) (fun v hv => by obtain ⟨v1, v3⟩ := hv; go_simp; try with_reducible rfl) ?_
        try simp only [Act.put, List.setIfInBounds_toArray, List.set_cons_zero, List.set_cons_succ]
        refine restS_lone (i := 17) rfl (by kernel_rfl) (by rfl) (fun K hK => ?_)
        go_simp
        refine hK.out _ _ (HS.out _ (Ch.setCell G9.out (p := ⟨R, 2, none⟩) (.inl (.inl rfl)) _)) ?_
        clear hK K
        try simp only [Act.put, List.setIfInBounds_toArray, List.set_cons_zero, List.set_cons_succ]
        refine restS_done (by kernel_rfl) ?_
        clear y1 y2 hsz3
        go_wp2
        go_ret
        rw [HE.out]
        refine ⟨rfl, Ak, A8, A9, ?_, ?_, Ch.setCell V9.out (p := ⟨R, 2, none⟩) (.inl (.inl rfl)) _⟩
        · rw [show (raw { s with pend := s.pend ++ [(t, pad512 b)] }) = (⟨s.kept, List.map (fun p : Nat × List UInt8 => p.1) s.pend ++ [t], List.map (fun p : Nat × List UInt8 => p.2) s.pend ++ [PD], s.count, s.calls⟩ : Rs) by rw [HPD.out]; simp [raw]]
          exact X9.out
        · intro k hk
          have hw1 := HW1.out
          have hw2 := CW2.out.size
          rcases hk with hk | hk | ⟨x, hx, rfl⟩ | ⟨x, hx, rfl⟩
          · exact .inl (.inl hk)
          · exact .inl (.inr (.inl hk))
          · rcases M8.out x hx with h | h
            · exact .inl (.inr (.inr (.inl ⟨x, h, rfl⟩)))
            · exact .inr (by omega)
          · rcases M9.out x hx with h | h
            · exact .inl (.inr (.inr (.inr ⟨x, h, rfl⟩)))
            · exact .inr (by omega)
end
end Go.Proofs.Ythakdjaaknbmpaa.S13
