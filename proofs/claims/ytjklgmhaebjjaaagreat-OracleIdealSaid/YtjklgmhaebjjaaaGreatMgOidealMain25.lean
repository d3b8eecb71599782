/-
  The program's partner.
-/
import Derived.Test.YtjklgmhaebjjaaaGreatMgOidealMain24
import Derived.Maps.Own
namespace Go.Proofs.YtjklgmhaebjjaaaGreat.S11
open Go.RowKit
set_option linter.unusedVariables false
set_option linter.unusedSimpArgs false

/-- One side's map. -/
def own (c : Bool) (ff fb : MS) : MS := if c then ff else fb
section
variable {w w' : World} {G : Nat} {L : Lay} {A : Option Addr} {n c : Nat} {seed : List UInt8} {bad : Bool} {cnt : Int} {fa : MA} {fg : MG} {ff fb : MS}
theorem Lr.side (h : Lr w G L A n c seed bad cnt fa fg ff fb) (d : Bool) : Mp.Mp kv kv w (L.side d) (own d ff fb) := by
  cases d
  · exact h.mb
  · exact h.mf
theorem Lr.sideNe (h : Lr w G L A n c seed bad cnt fa fg ff fb) (d : Bool) : L.side d ≠ L.side (!d) := by
  cases d
  · exact fun e => h.d.2.2.2.2.2 e.symm
  · exact h.d.2.2.2.2.2
theorem ff_side (G : Nat) (L : Lay) (d : Bool) : FF G L (L.side d) := by
  cases d
  · exact .inr (.inr (.inr (.inr (.inl rfl))))
  · exact .inr (.inr (.inr (.inl rfl)))
theorem Lr.putS (h : Lr w G L A n c seed bad cnt fa fg ff fb) (d : Bool) {f' : MS} (hm : Mp.Mp kv kv w' (L.side d) f') (hg : w.grownBy w' (some (L.side d))) :
    ∃ ff' fb', Lr w' G L A n c seed bad cnt fa fg ff' fb' ∧ own d ff' fb' = f' ∧ own (!d) ff' fb' = own (!d) ff fb := by
  cases d
  · exact ⟨ff, f', h.putB hm hg, rfl, rfl⟩
  · exact ⟨f', fb, h.putF hm hg, rfl, rfl⟩
theorem Tab4.side {st : St} (h : Tab4 st fa fg ff fb) (d : Bool) : Side st.ps d (own d ff fb) := by
  cases d
  · exact h.b
  · exact h.f
theorem Tab4.mk2 {st : St} (ha : Fa st.fs fa) (hg : Fg st.fs fg) (d : Bool) (h1 : Side st.ps d (own d ff fb)) (h2 : Side st.ps (!d) (own (!d) ff fb)) (hw : Wfp st.ps) : Tab4 st fa fg ff fb := by
  cases d
  · exact ⟨ha, hg, h2, h1, hw⟩
  · exact ⟨ha, hg, h1, h2, hw⟩
end
theorem restS_three {P : Program} {ops : Array Oper} {Q : Exit → Act → World → Prop} {S : World → Prop} {i j k : Nat} {o p q : Oper} {fuel : Nat} {listed : Array Bool} {a : Act} {w : World} (hi : ops[i]? = some o) (hj : ops[j]? = some p) (hk : ops[k]? = some q) (hr : Region.ready .any ops listed = [i, j, k]) (hwi : Region.wanted o (yielded ops a.tmps) = true) (hwj : Region.wanted p (yielded ops a.tmps) = true) (hwk : Region.wanted q (yielded ops a.tmps) = true)
    (h : ∀ K : Act → World → Prop, Shut (∀ a' w', S w' → RestS P ops Q S fuel (listed.setIfInBounds i true) a' w' → K a' w') → Oper.wp P o a w K (NoPanic Q))
    (h2 : ∀ K : Act → World → Prop, Shut (∀ a' w', S w' → RestS P ops Q S fuel (listed.setIfInBounds j true) a' w' → K a' w') → Oper.wp P p a w K (NoPanic Q))
    (h3 : ∀ K : Act → World → Prop, Shut (∀ a' w', S w' → RestS P ops Q S fuel (listed.setIfInBounds k true) a' w' → K a' w') → Oper.wp P q a w K (NoPanic Q)) : RestS P ops Q S (fuel + 1) listed a w := by
  refine wpAnyH_all hr (by simp) fun x hx => ?_
  simp only [List.mem_cons, List.not_mem_nil, or_false] at hx
  rcases hx with rfl | rfl | rfl
  · unfold wpOp
    simp only [hi, hwi, if_true]
    exact .inl (h _ fun a' w' hg hrest => ⟨hg, hrest⟩)
  · unfold wpOp
    simp only [hj, hwj, if_true]
    exact .inl (h2 _ fun a' w' hg hrest => ⟨hg, hrest⟩)
  · unfold wpOp
    simp only [hk, hwk, if_true]
    exact .inl (h3 _ fun a' w' hg hrest => ⟨hg, hrest⟩)
theorem rd_lt {w : World} {B : Nat} {A : Option Addr} {l : List UInt8} (h : Rd w B A l) (hl : l ≠ []) : ∀ x, A = some x → x.block < B := by
  rintro x rfl
  rcases h with e | ⟨b, off, e, hb, _⟩
  · exact absurd e hl
  · simp only [Option.some.injEq] at e
    rw [e]; exact hb
theorem rd_chF {F : Nat → Prop} {w w' : World} {A : Option Addr} {l : List UInt8} (h : Rd w w.heap.size A l) (hc : Ch F w w') (ho : ∀ x, A = some x → l ≠ [] → ¬ F x.block) : Rd w' w'.heap.size A l := by
  rcases h with e | ⟨b, off, e, hb, hcl⟩
  · exact .inl e
  · by_cases hl : l = []
    · exact .inl hl
    · exact .inr ⟨b, off, e, Nat.lt_of_lt_of_le hb hc.size, fun j hj => (hc.cell (p := ⟨b, off + j, none⟩) hb (ho ⟨b, off, none⟩ e hl)).trans (hcl j hj)⟩
theorem set2 {v : World} {g : Nat} {u1 u2 : Value} {t : TypeId} (h : v.heap[g]? = some (.cells #[u1, u2] t (0, 0))) (x y : Value) : ((v.setCell ⟨g, 0, none⟩ x).setCell ⟨g, 1, none⟩ y).heap[g]? = some (.cells #[x, y] t (0, 0)) ∧ (∀ k, k ≠ g → ((v.setCell ⟨g, 0, none⟩ x).setCell ⟨g, 1, none⟩ y).heap[k]? = v.heap[k]?) ∧ ((v.setCell ⟨g, 0, none⟩ x).setCell ⟨g, 1, none⟩ y).heap.size = v.heap.size :=
  ⟨heap_setCell_same _ g 1 _ _ _ (heap_setCell_same v g 0 _ _ _ h), fun k hk => (heap_setCell_other _ _ k _ hk).trans (heap_setCell_other _ _ k _ hk), by simp⟩
theorem rd_blk {v v' : World} {A : Option Addr} {l : List UInt8} (h : Rd v v.heap.size A l) (hk : ∀ x, A = some x → v'.heap[x.block]? = v.heap[x.block]?) (hs : v.heap.size ≤ v'.heap.size) : Rd v' v'.heap.size A l := by
  rcases h with e | ⟨b, off, e, hb, hcl⟩
  · exact .inl e
  · exact .inr ⟨b, off, e, Nat.lt_of_lt_of_le hb hs, fun j hj => by rw [World.cell?_of_block (a := ⟨b, off + j, none⟩) (hk ⟨b, off, none⟩ e)]; exact hcl j hj⟩
theorem told_n (d : Bool) (n s z : List UInt8) : (told d n s z).n = n := by cases d <;> rfl
theorem told_key (d : Bool) (n s z : List UInt8) : key d (told d n s z) = s := by cases d <;> rfl
theorem told_ans (d : Bool) (n s z : List UInt8) : ans d (told d n s z) = z := by cases d <;> rfl
theorem told_key2 (d : Bool) (n s z : List UInt8) : key (!d) (told d n s z) = z := by cases d <;> rfl
theorem told_ans2 (d : Bool) (n s z : List UInt8) : ans (!d) (told d n s z) = s := by cases d <;> rfl
theorem told_len (d : Bool) (n s z : List UInt8) (h : z.length = s.length) : (told d n s z).x.length = (told d n s z).y.length := by cases d <;> simp [told, h]
theorem told_x (d : Bool) (n s z : List UInt8) (h : z.length = s.length) (hs : s ≠ []) : (told d n s z).x ≠ [] := by
  have : 0 < s.length := List.length_pos_iff.2 hs
  cases d
  · show z ≠ []
    intro e; rw [e] at h; simp at h; omega
  · exact hs
theorem grownBy_ch {v v' : World} {M : Nat} (h : Ch (fun k => k = M) v v') : v.grownBy v' (some M) := ⟨h.os, h.tape, h.output, h.size, fun k hk hne => h.block k hk (fun e => hne (by rw [e]))⟩
theorem reg_cut3 {P : Program} {id : Nat} {ops : Array Oper} {a : Act} {w : World} {Qx : Exit → Act → World → Prop} (FX : Nat → Nat → World → Prop) (act : Nat → Nat → Value → Act) (h1 : ∀ Q2 : Exit → Act → World → Prop, (∀ ga gd B v, FX ga gd v → Q2 .normal (act ga gd B) v) → (Code.region id ops true).wp P Q2 a w) (h2 : ∀ ga gd B v, FX ga gd v → Qx .normal (act ga gd B) v) : (Code.region id ops true).wp P Qx a w := h1 Qx h2
section
variable {w : World} {G : Nat} {L : Lay} {A : Option Addr} {n c : Nat} {st : St} {fa : MA} {fg : MG} {ff fb : MS}
set_option maxHeartbeats 8000000 in
set_option maxRecDepth 20000 in
theorem partner_any (h : Lr w G L A n c st.seed st.bad (st.cnt : Int) fa fg ff fb) (ht : Tab4 st fa fg ff fb) (hfew : Few st) (d : Bool) (name s : List UInt8) (As : Option Addr) (ns cs : Nat) (hnl : name.length ≤ 1000) (hsl : s.length = ns) (hsc : ns ≤ cs) (hs2 : ns ≤ 1000) (hrs : Rd w w.heap.size As s) (hoff : ∀ x, As = some x → s ≠ [] → ¬ FF G L x.block) :
    Calls Tryz.prog 80 #[.pointer (some ⟨G, 0, none⟩), .map (some (L.side d)), .map (some (L.side (!d))), .string ⟨name.toArray⟩, .slice As ns cs] w (OutL w G L (prOp st name s d).1 (prOp st name s d).2) := by
  have H0 := Lib.hid h
  have HT := Lib.hid ht
  have HFew := Lib.hid hfew
  have HRS := Lib.hid hrs
  have HOF := Lib.hid hoff
  have HSL := Lib.hid hsl
  obtain ⟨Mo, hMo⟩ : ∃ Mo, Mo = L.side d := ⟨_, rfl⟩
  obtain ⟨Mt, hMt⟩ : ∃ Mt, Mt = L.side (!d) := ⟨_, rfl⟩
  have HMO := Lib.hid (show Mp.Mp kv kv w Mo (own d ff fb) by rw [hMo]; exact h.side d)
  rw [← hMo, ← hMt]
  have Hmo := Lib.hid hMo
  have Hmt := Lib.hid hMt
  clear h ht hfew hrs hoff hMo hMt
  by_cases hz : ns = 0
  · subst hz
    have hs0 : s = [] := List.eq_nil_of_length_eq_zero hsl
    have HF := Lib.hid (show prOp st name s d = ([], st) by unfold prOp; rw [if_pos hs0])
    clear hs0 hsl
    go_enter Tryz.func80, Tryz.ntmps80
    go_wp2
    go_ret
    rw [HF.out]
    exact ⟨none, 0, 0, rfl, rfl, Nat.le_refl _, .inl rfl, (fun x hx => by cases hx), ⟨A, n, c, fa, fg, ff, fb, H0.out, HT.out⟩, Ch.refl _ _⟩
  · have hs0 : s ≠ [] := fun e => hz (by rw [← hsl, e]; rfl)
    have hnz : ¬ (ns : Int) = 0 := by omega
    have HS0 := Lib.hid hs0
    have hcv := conv HRS.out cs
    rw [hsl] at hcv
    clear hsl hs0 hz
    cases hfa : (own d ff fb) (name, s) with
    | some pk =>
      obtain ⟨p, k⟩ := pk
      have HF := Lib.hid (show prOp st name s d = (p, st) by
        have h1 := (HT.out.side d).val name s
        rw [hfa] at h1
        unfold prOp
        rw [if_neg HS0.out]
        cases hf : st.ps.find? (hitQ name s d) with
        | none => rw [hf] at h1; cases h1
        | some t => rw [hf] at h1; simp only [Option.map_some, Option.some.injEq] at h1; rw [h1])
      have hlk := lookP HMO.out name s (p := p) (k := k) (ok := true) (by rw [hfa]; rfl) (by rw [hfa]; rfl)
      obtain ⟨cb, w6, hcv6, hcb, hbq, hg6⟩ := conv_bq (w.alloc (.cells #[.string ⟨p.toArray⟩, .string ⟨k.toArray⟩] 147)) p
      obtain ⟨gb, hgb⟩ : ∃ gb, gb = (w.alloc (.cells #[.string ⟨p.toArray⟩, .string ⟨k.toArray⟩] 147)).heap.size := ⟨_, rfl⟩
      rw [← hgb] at hcv6 hbq
      have HGB := Lib.hid hgb
      have HBQ := Lib.hid hbq
      have HG6 := Lib.hid (show Grown w w6 from (alloc_below w (.cells #[.string ⟨p.toArray⟩, .string ⟨k.toArray⟩] 147)).trans (Below.mono hg6 (alloc_below w (.cells #[.string ⟨p.toArray⟩, .string ⟨k.toArray⟩] 147)).size))
      obtain ⟨ly, hly⟩ : ∃ ly, ly = p.length := ⟨_, rfl⟩
      rw [← hly] at hcv6 hcb
      have HLY := Lib.hid hly
      clear hgb hbq hg6 hly hfa
      go_enter Tryz.func80, Tryz.ntmps80
      go_wp2
      go_ret
      rw [HF.out]
      exact ⟨some ⟨gb, 0, none⟩, ly, cb, rfl, HLY.out.symm, hcb, HBQ.out.rd, (fun x hx _ => by simp only [Option.some.injEq] at hx; subst hx; show w.heap.size ≤ gb; rw [HGB.out]; exact (alloc_below w _).size), ⟨A, n, c, fa, fg, ff, fb, H0.out.grow HG6.out, HT.out⟩, Ch.grown HG6.out⟩
    | none =>
      have HNO := Lib.hid (show st.ps.find? (hitQ name s d) = none by
        have h1 := (HT.out.side d).val name s
        rw [hfa] at h1
        cases hf : st.ps.find? (hitQ name s d) with
        | none => rfl
        | some t => rw [hf] at h1; cases h1)
      have hlk := lookP HMO.out name s (p := []) (k := []) (ok := false) (by rw [hfa]; rfl) (by rw [hfa]; rfl)
      have HFA := Lib.hid hfa
      clear hfa
      go_enter Tryz.func80, Tryz.ntmps80
      go_wp2_with fail
      refine (clone_any name _ (by omega)).mono ?_
      rintro e wb ⟨rfl, hgb⟩
      have HGb := Lib.hid (show Grown w wb from (alloc_below w (.cells #[.string ⟨#[]⟩, .string ⟨#[]⟩] 147)).trans (Below.mono hgb (alloc_below w (.cells #[.string ⟨#[]⟩, .string ⟨#[]⟩] 147)).size))
      have X0 := Lib.hid (H0.out.grow HGb.out)
      have c6 : wb.cell? ⟨G, 6, none⟩ = some (.int .i64 (st.cnt : Int)) := cell_of_row wb G 6 _ _ (0, 0) X0.out.hG
      have f6 : wb.frozen? ⟨G, 6, none⟩ = false := frozen_of_row wb G 6 _ _ X0.out.hG
      obtain ⟨k, hk⟩ : ∃ k, k = st.cnt := ⟨_, rfl⟩
      have HK := Lib.hid hk
      rw [← hk] at c6
      have hk4 : k ≤ 400 := by rw [hk]; exact HFew.out.2.2
      have X1 := Lib.hid (X0.out.setCnt ((k : Int) + 1))
      have C1 := Lib.hid (Ch.setCell (Ch.grown (F := FF G L) HGb.out) (p := ⟨G, 6, none⟩) (.inl (.inl rfl)) (.int .i64 ((k : Int) + 1)))
      clear hgb hk hlk hcv
      go_wp2_with fail
      clear c6 f6 X0
      obtain ⟨Y, hY⟩ : ∃ Y, Y = drawO st.seed s.length := ⟨_, rfl⟩
      have HNS := Lib.hid (show (ns : Int).toNat = ns by omega)
      have HY := Lib.hid (show drawO st.seed (ns : Int).toNat = Y by rw [hY, HSL.out]; rfl)
      have HYd := Lib.hid hY
      have HYl := Lib.hid (show Y.length = s.length by rw [hY]; exact drawO_len _ _)
      have HYn := Lib.hid (show Y ≠ [] from fun e => HS0.out (List.eq_nil_of_length_eq_zero (by rw [← HYl.out, e]; rfl)))
      clear hY
      generalize wb.setCell _ _ = wc at X1 C1 ⊢
      apply reg_cut3 (fun ga gd v => ∃ A2 n2 c2, Lr v G L A2 n2 c2 (st.seed.drop ns) st.bad ((k : Int) + 1) fa fg ff fb ∧ Ch (FF G L) w v ∧ v.heap[ga]? = some (Obj.cells #[.string ⟨name.toArray⟩, .string ⟨s.toArray⟩] 135 (0, 0)) ∧ v.heap[gd]? = some (Obj.cells #[.string ⟨name.toArray⟩, .string ⟨Y.toArray⟩] 135 (0, 0)) ∧ ga ≠ gd ∧ w.heap.size ≤ ga ∧ w.heap.size ≤ gd)
      · intro Q2 key
        have Hkey := Lib.hid key
        clear key
        generalize hv0 : wc.drew = v0
        have X0 := Lib.hid (show Lr v0 G L A n c st.seed st.bad ((k : Int) + 1) fa fg ff fb by rw [← hv0]; exact X1.out.grow ((Below.refl _ wc).drew))
        have C0 := Lib.hid (show Ch (FF G L) w v0 by rw [← hv0]; exact Ch.drew C1.out)
        have SX := Lib.hid (show ∀ v : World, Ch (FF G L) w v → (convert 22 9 (.slice As ns cs)).run Tryz.prog v = .ok (.string ⟨s.toArray⟩) v from fun v hv => by
          have := conv (rd_chF HRS.out hv HOF.out) cs
          rw [HSL.out] at this
          exact this)
        refine restS_begin (fun v : World => (convert 22 9 (.slice As ns cs)).run Tryz.prog v = .ok (.string ⟨s.toArray⟩) v) (by kernel_rfl) ?_
        rw [hv0]
        clear hv0
        refine restS_take (i := 0) (SX.out _ C0.out) rfl (by kernel_rfl) (by kernel_rfl) (by kernel_rfl) (by rfl) (fun v hv => by go_simp; try with_reducible rfl) ?_
        try simp only [Act.put, List.setIfInBounds_toArray, List.set_cons_zero, List.set_cons_succ]
        refine restS_take (i := 1) (SX.out _ C0.out) rfl (by kernel_rfl) (by kernel_rfl) (by kernel_rfl) (by rfl) (fun v hv => by go_simp; try with_reducible rfl) ?_
        try simp only [Act.put, List.setIfInBounds_toArray, List.set_cons_zero, List.set_cons_succ]
        refine restS_take (i := 2) (SX.out _ C0.out) rfl (by kernel_rfl) (by kernel_rfl) (by kernel_rfl) (by rfl) (fun v hv => by go_simp; try with_reducible rfl) ?_
        try simp only [Act.put, List.setIfInBounds_toArray, List.set_cons_zero, List.set_cons_succ]
        refine restS_take (i := 3) (SX.out _ C0.out) rfl (by kernel_rfl) (by kernel_rfl) (by kernel_rfl) (by rfl) (fun v hv => by go_simp; try with_reducible rfl) ?_
        try simp only [Act.put, List.setIfInBounds_toArray, List.set_cons_zero, List.set_cons_succ]
        refine restS_take (i := 4) (SX.out _ C0.out) rfl (by kernel_rfl) (by kernel_rfl) (by kernel_rfl) (by rfl) (fun v hv => by go_simp; try with_reducible rfl) ?_
        try simp only [Act.put, List.setIfInBounds_toArray, List.set_cons_zero, List.set_cons_succ]
        refine restS_take (i := 5) (SX.out _ C0.out) rfl (by kernel_rfl) (by kernel_rfl) (by kernel_rfl) (by rfl) (fun v hv => by go_simp; try with_reducible rfl) ?_
        try simp only [Act.put, List.setIfInBounds_toArray, List.set_cons_zero, List.set_cons_succ]
        refine restS_take (i := 6) (SX.out _ C0.out) rfl (by kernel_rfl) (by kernel_rfl) (by kernel_rfl) (by rfl) (fun v hv => by go_simp; try with_reducible rfl) ?_
        try simp only [Act.put, List.setIfInBounds_toArray, List.set_cons_zero, List.set_cons_succ]
        refine restS_take (i := 7) (SX.out _ C0.out) rfl (by kernel_rfl) (by kernel_rfl) (by kernel_rfl) (by rfl) (fun v hv => by go_simp; try with_reducible rfl) ?_
        try simp only [Act.put, List.setIfInBounds_toArray, List.set_cons_zero, List.set_cons_succ]
        refine restS_three (i := 8) (j := 11) (k := 12) rfl rfl rfl (by kernel_rfl) (by rfl) (by rfl) (by rfl) (fun K hK => ?p8) (fun K hK => ?p11) (fun K hK => ?p12)
        case' p8 =>
          go_simp
          refine (draw_raw X0.out (ns : Int) (by omega)).mono ?_
          rintro e v1 ⟨B, nb, cb, A2, n2, c2, rfl, hYl, hnc, hYr, hYb, hx2, hch2⟩
          rw [HY.out] at hYl hYr hYb
          rw [HNS.out] at hx2
          have X1 := Lib.hid hx2
          have C1 := Lib.hid (Ch.then C0.out hch2 (fun k hk e => .inl e))
          have R1 := Lib.hid hYr
          have SY := Lib.hid (show ∀ v : World, Rd v v.heap.size B Y → (convert 22 9 (.slice B nb cb)).run Tryz.prog v = .ok (.string ⟨Y.toArray⟩) v from fun v hv => by have := conv hv cb; rw [hYl] at this; exact this)
          clear hx2 hch2 hYr hYb hYl hnc
          refine hK.out _ _ (SX.out _ C1.out) ?_
          clear hK K X0 C0
          try simp only [Act.put, List.setIfInBounds_toArray, List.set_cons_zero, List.set_cons_succ]
          refine restS_mono (S' := fun v : World => (convert 22 9 (.slice As ns cs)).run Tryz.prog v = .ok (.string ⟨s.toArray⟩) v ∧ (convert 22 9 (.slice B nb cb)).run Tryz.prog v = .ok (.string ⟨Y.toArray⟩) v) (fun v hv => hv.1) ?_
          refine restS_take (i := 9) ⟨SX.out _ C1.out, SY.out _ R1.out⟩ rfl (by kernel_rfl) (by kernel_rfl) (by kernel_rfl) (by rfl) (fun v hv => by obtain ⟨s0, s1⟩ := hv; go_simp; try with_reducible rfl) ?_
          try simp only [Act.put, List.setIfInBounds_toArray, List.set_cons_zero, List.set_cons_succ]
          refine restS_take (i := 10) ⟨SX.out _ C1.out, SY.out _ R1.out⟩ rfl (by kernel_rfl) (by kernel_rfl) (by kernel_rfl) (by rfl) (fun v hv => by obtain ⟨s0, s1⟩ := hv; go_simp; try with_reducible rfl) ?_
          try simp only [Act.put, List.setIfInBounds_toArray, List.set_cons_zero, List.set_cons_succ]
          refine restS_two (i := 11) (j := 12) rfl rfl (by kernel_rfl) (by rfl) (by rfl) (fun K hK => ?p8a) (fun K hK => ?p8b)
        case' p8a =>
          go_simp
          have GG := Lib.hid (alloc_below v1 (.cells #[.string ⟨#[]⟩, .string ⟨#[]⟩] 135))
          have EA2 := Lib.hid (heap_alloc_new v1 (.cells #[.string ⟨#[]⟩, .string ⟨#[]⟩] 135))
          obtain ⟨ga, hga⟩ : ∃ ga, ga = v1.heap.size := ⟨_, rfl⟩
          rw [← hga] at EA2 ⊢
          have WEA := Lib.hid (show w.heap.size ≤ ga by rw [hga]; exact C1.out.size)
          have NEA := Lib.hid (show ∀ x, B = some x → x.block ≠ ga from fun x hx e => by have := rd_lt R1.out HYn.out x hx; omega)
          clear hga
          generalize v1.alloc _ = v2 at GG EA2 ⊢
          have X2 := Lib.hid (X1.out.grow GG.out)
          have C2 := Lib.hid (Ch.trans C1.out (Ch.grown GG.out))
          have R2 := Lib.hid (R1.out.grow GG.out)
          refine hK.out _ _ ⟨SX.out _ C2.out, SY.out _ R2.out⟩ ?_
          clear hK K GG X1 C1 R1
          try simp only [Act.put, List.setIfInBounds_toArray, List.set_cons_zero, List.set_cons_succ]
          refine restS_lone (i := 12) rfl (by kernel_rfl) (by rfl) (fun K hK => ?_)
          go_simp
          have GG := Lib.hid (alloc_below v2 (.cells #[.string ⟨#[]⟩, .string ⟨#[]⟩] 135))
          have ED3 := Lib.hid (heap_alloc_new v2 (.cells #[.string ⟨#[]⟩, .string ⟨#[]⟩] 135))
          obtain ⟨gd, hgd⟩ : ∃ gd, gd = v2.heap.size := ⟨_, rfl⟩
          rw [← hgd] at ED3 ⊢
          have WED := Lib.hid (show w.heap.size ≤ gd by rw [hgd]; exact C2.out.size)
          have NE := Lib.hid (show ga ≠ gd from fun e => by have := lt_of_heap EA2.out; omega)
          have NED := Lib.hid (show ∀ x, B = some x → x.block ≠ gd from fun x hx e => by have := rd_lt R2.out HYn.out x hx; omega)
          clear hgd
          generalize v2.alloc _ = v3 at GG ED3 ⊢
          have X3 := Lib.hid (X2.out.grow GG.out)
          have C3 := Lib.hid (Ch.trans C2.out (Ch.grown GG.out))
          have EA3 := Lib.hid ((GG.out.block ga (lt_of_heap EA2.out)).trans EA2.out)
          have R3 := Lib.hid (R2.out.grow GG.out)
          refine hK.out _ _ ⟨SX.out _ C3.out, SY.out _ R3.out⟩ ?_
          clear hK K GG X2 C2 EA2 R2
          try simp only [Act.put, List.setIfInBounds_toArray, List.set_cons_zero, List.set_cons_succ]
        case' p8b =>
          go_simp
          have GG := Lib.hid (alloc_below v1 (.cells #[.string ⟨#[]⟩, .string ⟨#[]⟩] 135))
          have ED2 := Lib.hid (heap_alloc_new v1 (.cells #[.string ⟨#[]⟩, .string ⟨#[]⟩] 135))
          obtain ⟨gd, hgd⟩ : ∃ gd, gd = v1.heap.size := ⟨_, rfl⟩
          rw [← hgd] at ED2 ⊢
          have WED := Lib.hid (show w.heap.size ≤ gd by rw [hgd]; exact C1.out.size)
          have NED := Lib.hid (show ∀ x, B = some x → x.block ≠ gd from fun x hx e => by have := rd_lt R1.out HYn.out x hx; omega)
          clear hgd
          generalize v1.alloc _ = v2 at GG ED2 ⊢
          have X2 := Lib.hid (X1.out.grow GG.out)
          have C2 := Lib.hid (Ch.trans C1.out (Ch.grown GG.out))
          have R2 := Lib.hid (R1.out.grow GG.out)
          refine hK.out _ _ ⟨SX.out _ C2.out, SY.out _ R2.out⟩ ?_
          clear hK K GG X1 C1 R1
          try simp only [Act.put, List.setIfInBounds_toArray, List.set_cons_zero, List.set_cons_succ]
          refine restS_lone (i := 11) rfl (by kernel_rfl) (by rfl) (fun K hK => ?_)
          go_simp
          have GG := Lib.hid (alloc_below v2 (.cells #[.string ⟨#[]⟩, .string ⟨#[]⟩] 135))
          have EA3 := Lib.hid (heap_alloc_new v2 (.cells #[.string ⟨#[]⟩, .string ⟨#[]⟩] 135))
          obtain ⟨ga, hga⟩ : ∃ ga, ga = v2.heap.size := ⟨_, rfl⟩
          rw [← hga] at EA3 ⊢
          have WEA := Lib.hid (show w.heap.size ≤ ga by rw [hga]; exact C2.out.size)
          have NE := Lib.hid (show ga ≠ gd from fun e => by have := lt_of_heap ED2.out; omega)
          have NEA := Lib.hid (show ∀ x, B = some x → x.block ≠ ga from fun x hx e => by have := rd_lt R2.out HYn.out x hx; omega)
          clear hga
          generalize v2.alloc _ = v3 at GG EA3 ⊢
          have X3 := Lib.hid (X2.out.grow GG.out)
          have C3 := Lib.hid (Ch.trans C2.out (Ch.grown GG.out))
          have ED3 := Lib.hid ((GG.out.block gd (lt_of_heap ED2.out)).trans ED2.out)
          have R3 := Lib.hid (R2.out.grow GG.out)
          refine hK.out _ _ ⟨SX.out _ C3.out, SY.out _ R3.out⟩ ?_
          clear hK K GG X2 C2 ED2 R2
          try simp only [Act.put, List.setIfInBounds_toArray, List.set_cons_zero, List.set_cons_succ]
        case' p11 =>
          go_simp
          have GG := Lib.hid (alloc_below v0 (.cells #[.string ⟨#[]⟩, .string ⟨#[]⟩] 135))
          have EA1 := Lib.hid (heap_alloc_new v0 (.cells #[.string ⟨#[]⟩, .string ⟨#[]⟩] 135))
          obtain ⟨ga, hga⟩ : ∃ ga, ga = v0.heap.size := ⟨_, rfl⟩
          rw [← hga] at EA1 ⊢
          have WEA := Lib.hid (show w.heap.size ≤ ga by rw [hga]; exact C0.out.size)
          clear hga
          generalize v0.alloc _ = v1 at GG EA1 ⊢
          have X1 := Lib.hid (X0.out.grow GG.out)
          have C1 := Lib.hid (Ch.trans C0.out (Ch.grown GG.out))
          refine hK.out _ _ (SX.out _ C1.out) ?_
          clear hK K GG X0 C0
          try simp only [Act.put, List.setIfInBounds_toArray, List.set_cons_zero, List.set_cons_succ]
          refine restS_two (i := 8) (j := 12) rfl rfl (by kernel_rfl) (by rfl) (by rfl) (fun K hK => ?p11a) (fun K hK => ?p11b)
        case' p11a =>
          go_simp
          refine (draw_raw X1.out (ns : Int) (by omega)).mono ?_
          rintro e v2 ⟨B, nb, cb, A2, n2, c2, rfl, hYl, hnc, hYr, hYb, hx2, hch2⟩
          rw [HY.out] at hYl hYr hYb
          rw [HNS.out] at hx2
          have X2 := Lib.hid hx2
          have C2 := Lib.hid (Ch.then C1.out hch2 (fun k hk e => .inl e))
          have R2 := Lib.hid hYr
          have SY := Lib.hid (show ∀ v : World, Rd v v.heap.size B Y → (convert 22 9 (.slice B nb cb)).run Tryz.prog v = .ok (.string ⟨Y.toArray⟩) v from fun v hv => by have := conv hv cb; rw [hYl] at this; exact this)
          have NEA := Lib.hid (show ∀ x, B = some x → x.block ≠ ga from fun x hx e => by have := hYb x hx HYn.out; have := lt_of_heap EA1.out; omega)
          have EA2 := Lib.hid ((hch2.block ga (lt_of_heap EA1.out) (fun e => by have := lt_of_heap H0.out.hG; have := WEA.out; omega)).trans EA1.out)
          clear hx2 hch2 hYr hYb hYl hnc
          refine hK.out _ _ (SX.out _ C2.out) ?_
          clear hK K X1 C1 EA1
          try simp only [Act.put, List.setIfInBounds_toArray, List.set_cons_zero, List.set_cons_succ]
          refine restS_mono (S' := fun v : World => (convert 22 9 (.slice As ns cs)).run Tryz.prog v = .ok (.string ⟨s.toArray⟩) v ∧ (convert 22 9 (.slice B nb cb)).run Tryz.prog v = .ok (.string ⟨Y.toArray⟩) v) (fun v hv => hv.1) ?_
          refine restS_take (i := 9) ⟨SX.out _ C2.out, SY.out _ R2.out⟩ rfl (by kernel_rfl) (by kernel_rfl) (by kernel_rfl) (by rfl) (fun v hv => by obtain ⟨s0, s1⟩ := hv; go_simp; try with_reducible rfl) ?_
          try simp only [Act.put, List.setIfInBounds_toArray, List.set_cons_zero, List.set_cons_succ]
          refine restS_take (i := 10) ⟨SX.out _ C2.out, SY.out _ R2.out⟩ rfl (by kernel_rfl) (by kernel_rfl) (by kernel_rfl) (by rfl) (fun v hv => by obtain ⟨s0, s1⟩ := hv; go_simp; try with_reducible rfl) ?_
          try simp only [Act.put, List.setIfInBounds_toArray, List.set_cons_zero, List.set_cons_succ]
          refine restS_lone (i := 12) rfl (by kernel_rfl) (by rfl) (fun K hK => ?_)
          go_simp
          have GG := Lib.hid (alloc_below v2 (.cells #[.string ⟨#[]⟩, .string ⟨#[]⟩] 135))
          have ED3 := Lib.hid (heap_alloc_new v2 (.cells #[.string ⟨#[]⟩, .string ⟨#[]⟩] 135))
          obtain ⟨gd, hgd⟩ : ∃ gd, gd = v2.heap.size := ⟨_, rfl⟩
          rw [← hgd] at ED3 ⊢
          have WED := Lib.hid (show w.heap.size ≤ gd by rw [hgd]; exact C2.out.size)
          have NE := Lib.hid (show ga ≠ gd from fun e => by have := lt_of_heap EA2.out; omega)
          have NED := Lib.hid (show ∀ x, B = some x → x.block ≠ gd from fun x hx e => by have := rd_lt R2.out HYn.out x hx; omega)
          clear hgd
          generalize v2.alloc _ = v3 at GG ED3 ⊢
          have X3 := Lib.hid (X2.out.grow GG.out)
          have C3 := Lib.hid (Ch.trans C2.out (Ch.grown GG.out))
          have EA3 := Lib.hid ((GG.out.block ga (lt_of_heap EA2.out)).trans EA2.out)
          have R3 := Lib.hid (R2.out.grow GG.out)
          refine hK.out _ _ ⟨SX.out _ C3.out, SY.out _ R3.out⟩ ?_
          clear hK K GG X2 C2 EA2 R2
          try simp only [Act.put, List.setIfInBounds_toArray, List.set_cons_zero, List.set_cons_succ]
        case' p11b =>
          go_simp
          have GG := Lib.hid (alloc_below v1 (.cells #[.string ⟨#[]⟩, .string ⟨#[]⟩] 135))
          have ED2 := Lib.hid (heap_alloc_new v1 (.cells #[.string ⟨#[]⟩, .string ⟨#[]⟩] 135))
          obtain ⟨gd, hgd⟩ : ∃ gd, gd = v1.heap.size := ⟨_, rfl⟩
          rw [← hgd] at ED2 ⊢
          have WED := Lib.hid (show w.heap.size ≤ gd by rw [hgd]; exact C1.out.size)
          have NE := Lib.hid (show ga ≠ gd from fun e => by have := lt_of_heap EA1.out; omega)
          clear hgd
          generalize v1.alloc _ = v2 at GG ED2 ⊢
          have X2 := Lib.hid (X1.out.grow GG.out)
          have C2 := Lib.hid (Ch.trans C1.out (Ch.grown GG.out))
          have EA2 := Lib.hid ((GG.out.block ga (lt_of_heap EA1.out)).trans EA1.out)
          refine hK.out _ _ (SX.out _ C2.out) ?_
          clear hK K GG X1 C1 EA1
          try simp only [Act.put, List.setIfInBounds_toArray, List.set_cons_zero, List.set_cons_succ]
          refine restS_lone (i := 8) rfl (by kernel_rfl) (by rfl) (fun K hK => ?_)
          go_simp
          refine (draw_raw X2.out (ns : Int) (by omega)).mono ?_
          rintro e v3 ⟨B, nb, cb, A2, n2, c2, rfl, hYl, hnc, hYr, hYb, hx2, hch2⟩
          rw [HY.out] at hYl hYr hYb
          rw [HNS.out] at hx2
          have X3 := Lib.hid hx2
          have C3 := Lib.hid (Ch.then C2.out hch2 (fun k hk e => .inl e))
          have R3 := Lib.hid hYr
          have SY := Lib.hid (show ∀ v : World, Rd v v.heap.size B Y → (convert 22 9 (.slice B nb cb)).run Tryz.prog v = .ok (.string ⟨Y.toArray⟩) v from fun v hv => by have := conv hv cb; rw [hYl] at this; exact this)
          have NEA := Lib.hid (show ∀ x, B = some x → x.block ≠ ga from fun x hx e => by have := hYb x hx HYn.out; have := lt_of_heap EA2.out; omega)
          have EA3 := Lib.hid ((hch2.block ga (lt_of_heap EA2.out) (fun e => by have := lt_of_heap H0.out.hG; have := WEA.out; omega)).trans EA2.out)
          have NED := Lib.hid (show ∀ x, B = some x → x.block ≠ gd from fun x hx e => by have := hYb x hx HYn.out; have := lt_of_heap ED2.out; omega)
          have ED3 := Lib.hid ((hch2.block gd (lt_of_heap ED2.out) (fun e => by have := lt_of_heap H0.out.hG; have := WED.out; omega)).trans ED2.out)
          clear hx2 hch2 hYr hYb hYl hnc
          refine hK.out _ _ (SX.out _ C3.out) ?_
          clear hK K X2 C2 EA2 ED2
          try simp only [Act.put, List.setIfInBounds_toArray, List.set_cons_zero, List.set_cons_succ]
          refine restS_mono (S' := fun v : World => (convert 22 9 (.slice As ns cs)).run Tryz.prog v = .ok (.string ⟨s.toArray⟩) v ∧ (convert 22 9 (.slice B nb cb)).run Tryz.prog v = .ok (.string ⟨Y.toArray⟩) v) (fun v hv => hv.1) ?_
          refine restS_take (i := 9) ⟨SX.out _ C3.out, SY.out _ R3.out⟩ rfl (by kernel_rfl) (by kernel_rfl) (by kernel_rfl) (by rfl) (fun v hv => by obtain ⟨s0, s1⟩ := hv; go_simp; try with_reducible rfl) ?_
          try simp only [Act.put, List.setIfInBounds_toArray, List.set_cons_zero, List.set_cons_succ]
          refine restS_take (i := 10) ⟨SX.out _ C3.out, SY.out _ R3.out⟩ rfl (by kernel_rfl) (by kernel_rfl) (by kernel_rfl) (by rfl) (fun v hv => by obtain ⟨s0, s1⟩ := hv; go_simp; try with_reducible rfl) ?_
          try simp only [Act.put, List.setIfInBounds_toArray, List.set_cons_zero, List.set_cons_succ]
        case' p12 =>
          go_simp
          have GG := Lib.hid (alloc_below v0 (.cells #[.string ⟨#[]⟩, .string ⟨#[]⟩] 135))
          have ED1 := Lib.hid (heap_alloc_new v0 (.cells #[.string ⟨#[]⟩, .string ⟨#[]⟩] 135))
          obtain ⟨gd, hgd⟩ : ∃ gd, gd = v0.heap.size := ⟨_, rfl⟩
          rw [← hgd] at ED1 ⊢
          have WED := Lib.hid (show w.heap.size ≤ gd by rw [hgd]; exact C0.out.size)
          clear hgd
          generalize v0.alloc _ = v1 at GG ED1 ⊢
          have X1 := Lib.hid (X0.out.grow GG.out)
          have C1 := Lib.hid (Ch.trans C0.out (Ch.grown GG.out))
          refine hK.out _ _ (SX.out _ C1.out) ?_
          clear hK K GG X0 C0
          try simp only [Act.put, List.setIfInBounds_toArray, List.set_cons_zero, List.set_cons_succ]
          refine restS_two (i := 8) (j := 11) rfl rfl (by kernel_rfl) (by rfl) (by rfl) (fun K hK => ?p12a) (fun K hK => ?p12b)
        case' p12a =>
          go_simp
          refine (draw_raw X1.out (ns : Int) (by omega)).mono ?_
          rintro e v2 ⟨B, nb, cb, A2, n2, c2, rfl, hYl, hnc, hYr, hYb, hx2, hch2⟩
          rw [HY.out] at hYl hYr hYb
          rw [HNS.out] at hx2
          have X2 := Lib.hid hx2
          have C2 := Lib.hid (Ch.then C1.out hch2 (fun k hk e => .inl e))
          have R2 := Lib.hid hYr
          have SY := Lib.hid (show ∀ v : World, Rd v v.heap.size B Y → (convert 22 9 (.slice B nb cb)).run Tryz.prog v = .ok (.string ⟨Y.toArray⟩) v from fun v hv => by have := conv hv cb; rw [hYl] at this; exact this)
          have NED := Lib.hid (show ∀ x, B = some x → x.block ≠ gd from fun x hx e => by have := hYb x hx HYn.out; have := lt_of_heap ED1.out; omega)
          have ED2 := Lib.hid ((hch2.block gd (lt_of_heap ED1.out) (fun e => by have := lt_of_heap H0.out.hG; have := WED.out; omega)).trans ED1.out)
          clear hx2 hch2 hYr hYb hYl hnc
          refine hK.out _ _ (SX.out _ C2.out) ?_
          clear hK K X1 C1 ED1
          try simp only [Act.put, List.setIfInBounds_toArray, List.set_cons_zero, List.set_cons_succ]
          refine restS_mono (S' := fun v : World => (convert 22 9 (.slice As ns cs)).run Tryz.prog v = .ok (.string ⟨s.toArray⟩) v ∧ (convert 22 9 (.slice B nb cb)).run Tryz.prog v = .ok (.string ⟨Y.toArray⟩) v) (fun v hv => hv.1) ?_
          refine restS_take (i := 9) ⟨SX.out _ C2.out, SY.out _ R2.out⟩ rfl (by kernel_rfl) (by kernel_rfl) (by kernel_rfl) (by rfl) (fun v hv => by obtain ⟨s0, s1⟩ := hv; go_simp; try with_reducible rfl) ?_
          try simp only [Act.put, List.setIfInBounds_toArray, List.set_cons_zero, List.set_cons_succ]
          refine restS_take (i := 10) ⟨SX.out _ C2.out, SY.out _ R2.out⟩ rfl (by kernel_rfl) (by kernel_rfl) (by kernel_rfl) (by rfl) (fun v hv => by obtain ⟨s0, s1⟩ := hv; go_simp; try with_reducible rfl) ?_
          try simp only [Act.put, List.setIfInBounds_toArray, List.set_cons_zero, List.set_cons_succ]
          refine restS_lone (i := 11) rfl (by kernel_rfl) (by rfl) (fun K hK => ?_)
          go_simp
          have GG := Lib.hid (alloc_below v2 (.cells #[.string ⟨#[]⟩, .string ⟨#[]⟩] 135))
          have EA3 := Lib.hid (heap_alloc_new v2 (.cells #[.string ⟨#[]⟩, .string ⟨#[]⟩] 135))
          obtain ⟨ga, hga⟩ : ∃ ga, ga = v2.heap.size := ⟨_, rfl⟩
          rw [← hga] at EA3 ⊢
          have WEA := Lib.hid (show w.heap.size ≤ ga by rw [hga]; exact C2.out.size)
          have NE := Lib.hid (show ga ≠ gd from fun e => by have := lt_of_heap ED2.out; omega)
          have NEA := Lib.hid (show ∀ x, B = some x → x.block ≠ ga from fun x hx e => by have := rd_lt R2.out HYn.out x hx; omega)
          clear hga
          generalize v2.alloc _ = v3 at GG EA3 ⊢
          have X3 := Lib.hid (X2.out.grow GG.out)
          have C3 := Lib.hid (Ch.trans C2.out (Ch.grown GG.out))
          have ED3 := Lib.hid ((GG.out.block gd (lt_of_heap ED2.out)).trans ED2.out)
          have R3 := Lib.hid (R2.out.grow GG.out)
          refine hK.out _ _ ⟨SX.out _ C3.out, SY.out _ R3.out⟩ ?_
          clear hK K GG X2 C2 ED2 R2
          try simp only [Act.put, List.setIfInBounds_toArray, List.set_cons_zero, List.set_cons_succ]
        case' p12b =>
          go_simp
          have GG := Lib.hid (alloc_below v1 (.cells #[.string ⟨#[]⟩, .string ⟨#[]⟩] 135))
          have EA2 := Lib.hid (heap_alloc_new v1 (.cells #[.string ⟨#[]⟩, .string ⟨#[]⟩] 135))
          obtain ⟨ga, hga⟩ : ∃ ga, ga = v1.heap.size := ⟨_, rfl⟩
          rw [← hga] at EA2 ⊢
          have WEA := Lib.hid (show w.heap.size ≤ ga by rw [hga]; exact C1.out.size)
          have NE := Lib.hid (show ga ≠ gd from fun e => by have := lt_of_heap ED1.out; omega)
          clear hga
          generalize v1.alloc _ = v2 at GG EA2 ⊢
          have X2 := Lib.hid (X1.out.grow GG.out)
          have C2 := Lib.hid (Ch.trans C1.out (Ch.grown GG.out))
          have ED2 := Lib.hid ((GG.out.block gd (lt_of_heap ED1.out)).trans ED1.out)
          refine hK.out _ _ (SX.out _ C2.out) ?_
          clear hK K GG X1 C1 ED1
          try simp only [Act.put, List.setIfInBounds_toArray, List.set_cons_zero, List.set_cons_succ]
          refine restS_lone (i := 8) rfl (by kernel_rfl) (by rfl) (fun K hK => ?_)
          go_simp
          refine (draw_raw X2.out (ns : Int) (by omega)).mono ?_
          rintro e v3 ⟨B, nb, cb, A2, n2, c2, rfl, hYl, hnc, hYr, hYb, hx2, hch2⟩
          rw [HY.out] at hYl hYr hYb
          rw [HNS.out] at hx2
          have X3 := Lib.hid hx2
          have C3 := Lib.hid (Ch.then C2.out hch2 (fun k hk e => .inl e))
          have R3 := Lib.hid hYr
          have SY := Lib.hid (show ∀ v : World, Rd v v.heap.size B Y → (convert 22 9 (.slice B nb cb)).run Tryz.prog v = .ok (.string ⟨Y.toArray⟩) v from fun v hv => by have := conv hv cb; rw [hYl] at this; exact this)
          have NEA := Lib.hid (show ∀ x, B = some x → x.block ≠ ga from fun x hx e => by have := hYb x hx HYn.out; have := lt_of_heap EA2.out; omega)
          have EA3 := Lib.hid ((hch2.block ga (lt_of_heap EA2.out) (fun e => by have := lt_of_heap H0.out.hG; have := WEA.out; omega)).trans EA2.out)
          have NED := Lib.hid (show ∀ x, B = some x → x.block ≠ gd from fun x hx e => by have := hYb x hx HYn.out; have := lt_of_heap ED2.out; omega)
          have ED3 := Lib.hid ((hch2.block gd (lt_of_heap ED2.out) (fun e => by have := lt_of_heap H0.out.hG; have := WED.out; omega)).trans ED2.out)
          clear hx2 hch2 hYr hYb hYl hnc
          refine hK.out _ _ (SX.out _ C3.out) ?_
          clear hK K X2 C2 EA2 ED2
          try simp only [Act.put, List.setIfInBounds_toArray, List.set_cons_zero, List.set_cons_succ]
          refine restS_mono (S' := fun v : World => (convert 22 9 (.slice As ns cs)).run Tryz.prog v = .ok (.string ⟨s.toArray⟩) v ∧ (convert 22 9 (.slice B nb cb)).run Tryz.prog v = .ok (.string ⟨Y.toArray⟩) v) (fun v hv => hv.1) ?_
          refine restS_take (i := 9) ⟨SX.out _ C3.out, SY.out _ R3.out⟩ rfl (by kernel_rfl) (by kernel_rfl) (by kernel_rfl) (by rfl) (fun v hv => by obtain ⟨s0, s1⟩ := hv; go_simp; try with_reducible rfl) ?_
          try simp only [Act.put, List.setIfInBounds_toArray, List.set_cons_zero, List.set_cons_succ]
          refine restS_take (i := 10) ⟨SX.out _ C3.out, SY.out _ R3.out⟩ rfl (by kernel_rfl) (by kernel_rfl) (by kernel_rfl) (by rfl) (fun v hv => by obtain ⟨s0, s1⟩ := hv; go_simp; try with_reducible rfl) ?_
          try simp only [Act.put, List.setIfInBounds_toArray, List.set_cons_zero, List.set_cons_succ]
        all_goals
          obtain ⟨a0, a1, a2, a3⟩ := row_cells EA3.out
          refine restS_lone (i := 13) rfl (by kernel_rfl) (by rfl) (fun K hK => ?_)
          go_simp
          obtain ⟨b0, b1, b2⟩ := set2 EA3.out (.string ⟨name.toArray⟩) (.string ⟨s.toArray⟩)
          have C4 := Lib.hid (Ch.setCell (Ch.setCell C3.out (p := ⟨ga, 0, none⟩) (.inr WEA.out) (.string ⟨name.toArray⟩)) (p := ⟨ga, 1, none⟩) (.inr WEA.out) (.string ⟨s.toArray⟩))
          have EA4 := Lib.hid b0
          have X4 := Lib.hid (X3.out.keep (fun k hk => b1 k (fun e => by have := H0.out.lt k hk; have := WEA.out; omega)) (Nat.le_of_eq b2.symm))
          have ED4 := Lib.hid ((b1 gd (fun e => NE.out e.symm)).trans ED3.out)
          have R4 := Lib.hid (rd_blk R3.out (fun x hx => b1 _ (NEA.out x hx)) (Nat.le_of_eq b2.symm))
          clear b0 b1 b2 a0 a1 a2 a3
          generalize (v3.setCell _ _).setCell _ _ = v4 at C4 EA4 X4 ED4 R4 ⊢
          refine hK.out _ _ ⟨SX.out _ C4.out, SY.out _ R4.out⟩ ?_
          clear hK K X3 C3 EA3 ED3 R3
          try simp only [Act.put, List.setIfInBounds_toArray, List.set_cons_zero, List.set_cons_succ]
          obtain ⟨d0, d1, d2, d3⟩ := row_cells ED4.out
          refine restS_lone (i := 14) rfl (by kernel_rfl) (by rfl) (fun K hK => ?_)
          go_simp
          obtain ⟨b0, b1, b2⟩ := set2 ED4.out (.string ⟨name.toArray⟩) (.string ⟨Y.toArray⟩)
          have C5 := Lib.hid (Ch.setCell (Ch.setCell C4.out (p := ⟨gd, 0, none⟩) (.inr WED.out) (.string ⟨name.toArray⟩)) (p := ⟨gd, 1, none⟩) (.inr WED.out) (.string ⟨Y.toArray⟩))
          have ED5 := Lib.hid b0
          have X5 := Lib.hid (X4.out.keep (fun k hk => b1 k (fun e => by have := H0.out.lt k hk; have := WED.out; omega)) (Nat.le_of_eq b2.symm))
          have EA5 := Lib.hid ((b1 ga NE.out).trans EA4.out)
          have R5 := Lib.hid (rd_blk R4.out (fun x hx => b1 _ (NED.out x hx)) (Nat.le_of_eq b2.symm))
          clear b0 b1 b2 d0 d1 d2 d3
          generalize (v4.setCell _ _).setCell _ _ = v5 at C5 EA5 X5 ED5 R5 ⊢
          refine hK.out _ _ ⟨SX.out _ C5.out, SY.out _ R5.out⟩ ?_
          clear hK K X4 C4 EA4 ED4 R4
          try simp only [Act.put, List.setIfInBounds_toArray, List.set_cons_zero, List.set_cons_succ]
          refine restS_done (by kernel_rfl) ?_
          generalize Value.slice B nb cb = Bv
          exact Hkey.out ga gd Bv v5 ⟨A2, n2, c2, X5.out, C5.out, EA5.out, ED5.out, NE.out, WEA.out, WED.out⟩
      · rintro ga gd B v ⟨A2, n2, c2, hx, hc, hea, hed, hne, hwa, hwd⟩
        have X6 := Lib.hid hx
        have C6 := Lib.hid hc
        have EA6 := Lib.hid hea
        have ED6 := Lib.hid hed
        have WEA := Lib.hid hwa
        have WED := Lib.hid hwd
        have NE := Lib.hid hne
        obtain ⟨d0, d1, d2, d3⟩ := row_cells hed
        obtain ⟨p1, k1, hpk1⟩ : ∃ p1 k1, ((own (!d) ff fb) (name, Y)).getD ([], []) = (p1, k1) := ⟨_, _, rfl⟩
        obtain ⟨ok, hok⟩ : ∃ ok, ((own (!d) ff fb) (name, Y)).isSome = ok := ⟨_, rfl⟩
        have hlk := lookP (hx.side (!d)) name Y hpk1 hok
        rw [← Hmt.out] at hlk
        have HTK := Lib.hid (show taken st.ps name Y (!d) = ok by rw [← (HT.out.side (!d)).has]; exact hok)
        clear hx hc hea hed hne hwa hwd X1 C1 hpk1 hok
        have HF := Lib.hid (show prOp st name s d = (freeY st name s d, prNew st name s d) by unfold prOp; rw [if_neg HS0.out, HNO.out])
        have XV := Lib.hid (X6.out.grow (alloc_below v (.cells #[.string ⟨p1.toArray⟩, .string ⟨k1.toArray⟩] 147)))
        have CV := Lib.hid (Ch.alloc C6.out (.cells #[.string ⟨p1.toArray⟩, .string ⟨k1.toArray⟩] 147))
        have EAV := Lib.hid ((heap_alloc_old v (.cells #[.string ⟨p1.toArray⟩, .string ⟨k1.toArray⟩] 147) (lt_of_heap EA6.out)).trans EA6.out)
        have EDV := Lib.hid ((heap_alloc_old v (.cells #[.string ⟨p1.toArray⟩, .string ⟨k1.toArray⟩] 147) (lt_of_heap ED6.out)).trans ED6.out)
        cases ok
        case' true =>
          have c5 : (v.alloc (.cells #[.string ⟨p1.toArray⟩, .string ⟨k1.toArray⟩] 147)).cell? ⟨G, 5, none⟩ = some (.bool st.bad) := cell_of_row _ G 5 _ _ (0, 0) XV.out.hG
          have f5 : (v.alloc (.cells #[.string ⟨p1.toArray⟩, .string ⟨k1.toArray⟩] 147)).frozen? ⟨G, 5, none⟩ = false := frozen_of_row _ G 5 _ _ XV.out.hG
          have XB := Lib.hid (XV.out.setBad true)
          have CB := Lib.hid (Ch.setCell CV.out (p := ⟨G, 5, none⟩) (.inl (.inl rfl)) (.bool true))
          have EAB := Lib.hid ((heap_setCell_other (v.alloc (.cells #[.string ⟨p1.toArray⟩, .string ⟨k1.toArray⟩] 147)) ⟨G, 5, none⟩ ga (.bool true) (fun e => by have := lt_of_heap H0.out.hG; have := WEA.out; simp only at e; omega)).trans EAV.out)
          have EDB := Lib.hid ((heap_setCell_other (v.alloc (.cells #[.string ⟨p1.toArray⟩, .string ⟨k1.toArray⟩] 147)) ⟨G, 5, none⟩ gd (.bool true) (fun e => by have := lt_of_heap H0.out.hG; have := WED.out; simp only at e; omega)).trans EDV.out)
          obtain ⟨g0, g1, _, _⟩ := row_cells EDB.out
          go_wp2_with fail
          clear c5 f5 hlk d0 d1 d2 d3 g0 g1 X6 C6 EA6 ED6 XV CV EAV EDV
          generalize (v.alloc _).setCell _ _ = vb at XB CB EAB EDB ⊢
          refine (free_any (c := !d) (f := own (!d) ff fb) (ps := st.ps) (by rw [Hmt.out]; exact XB.out.side (!d)) (HT.out.side (!d)) HFew.out.2.1 name Y (List.length_pos_iff.2 HYn.out) (by rw [HYl.out, HSL.out]; exact hs2)).mono ?_
          rintro e v6 ⟨f', rfl, hM', hS', hCh⟩
          obtain ⟨Z, hZ⟩ : ∃ Z, Z = adv (fun u => taken st.ps name u (!d)) 255 Y := ⟨_, rfl⟩
          rw [← hZ]
          have HZ := Lib.hid (show Z = freeY st name s d by rw [hZ, HYd.out]; rfl)
          obtain ⟨ff1, fb1, hx1, ho1, ho2⟩ := XB.out.putS (!d) (f' := f') (w' := v6) (by rw [← Hmt.out]; exact hM') (by rw [← Hmt.out]; exact grownBy_ch hCh)
          rw [Bool.not_not] at ho2
          have hMne : ∀ k cs t, vb.heap[k]? = some (Obj.cells cs t (0, 0)) → v6.heap[k]? = some (Obj.cells cs t (0, 0)) := fun k cs t hk => (hCh.block k (lt_of_heap hk) (fun e => by
            have h7 := XB.out.side (!d)
            rw [← Hmt.out] at h7
            exact h7.cells hk e.symm)).trans hk
          have EA7 := Lib.hid (hMne _ _ _ EAB.out)
          have ED7 := Lib.hid (hMne _ _ _ EDB.out)
          have X7 := Lib.hid hx1
          have C7 := Lib.hid (Ch.then CB.out hCh (fun k hk e => by rw [e, Hmt.out]; exact ff_side G L (!d)))
          have HO1 := Lib.hid (show Side st.ps (!d) (own (!d) ff1 fb1) by rw [ho1]; exact hS')
          have HO2 := Lib.hid (show Side st.ps d (own d ff1 fb1) by rw [ho2]; exact HT.out.side d)
          have HO3 := Lib.hid (show own d ff1 fb1 (name, s) = none by rw [ho2]; exact HFA.out)
          have HBB := Lib.hid (show true = (st.bad || taken st.ps name (drawO st.seed s.length) (!d)) by rw [← HYd.out, HTK.out]; simp)
          clear hZ hx1 ho1 ho2 hM' hS' hCh hMne XB CB EAB EDB
          obtain ⟨g0, g1, g2, g3⟩ := row_cells ED7.out
          obtain ⟨b0, b1, b2⟩ := set2 ED7.out (.string ⟨name.toArray⟩) (.string ⟨Z.toArray⟩)
          have C8 := Lib.hid (Ch.setCell (Ch.setCell C7.out (p := ⟨gd, 0, none⟩) (.inr WED.out) (.string ⟨name.toArray⟩)) (p := ⟨gd, 1, none⟩) (.inr WED.out) (.string ⟨Z.toArray⟩))
          have ED8 := Lib.hid b0
          have X8 := Lib.hid (X7.out.keep (fun k hk => b1 k (fun e => by have := H0.out.lt k hk; have := WED.out; omega)) (Nat.le_of_eq b2.symm))
          have EA8 := Lib.hid ((b1 ga NE.out).trans EA7.out)
          clear b0 b1 b2 X7 C7 EA7 ED7
          obtain ⟨q0, q1, q2, q3⟩ := row_cells EA8.out
          obtain ⟨r0, r1, r2, r3⟩ := row_cells ED8.out
          have HM8 := Lib.hid (show Mp.Mp kv kv ((v6.setCell ⟨gd, 0, none⟩ (.string ⟨name.toArray⟩)).setCell ⟨gd, 1, none⟩ (.string ⟨Z.toArray⟩)) Mo (own d ff1 fb1) by rw [Hmo.out]; exact X8.out.side d)
          have HZl := Lib.hid (show Z.length = ns by rw [HZ.out, freeY_len, HSL.out])
          have HNT := Lib.hid (show (own (!d) ff1 fb1) (name, Z) = none by
            have h1 := HO1.out.has name Z
            have h2 : taken st.ps name Z (!d) = false := by
              obtain ⟨i, hi, hj, hn⟩ := adv_free st.ps name (drawO st.seed s.length) (!d) (by rw [drawO_len, HSL.out]; omega) (by have := HFew.out.2.1; omega)
              have h3 : Z = itn i (drawO st.seed s.length) := HZ.out.trans (adv_at _ i 255 _ hi hj hn)
              rw [h3]; exact hn
            rw [h2] at h1
            exact Option.isNone_iff_eq_none.1 (by simpa using h1))
          have HTn := Lib.hid (fun (ffz fbz : MS) (e1 : own d ffz fbz = Mp.put (own d ff1 fb1) (name, s) (Z, [])) (e2 : own (!d) ffz fbz = Mp.put (own (!d) ff1 fb1) (name, Z) (s, [])) => show Tab4 (prNew st name s d) fa fg ffz fbz from by
            have hl : Z.length = s.length := by rw [HZl.out, HSL.out]
            have h1 := HO2.out.add (told d name s Z) (told_len d name s _ hl) (by rw [told_n, told_key]; exact HO3.out)
            have h2 := HO1.out.add (told d name s Z) (told_len d name s _ hl) (by rw [told_n, told_key2]; exact HNT.out)
            rw [told_n, told_key, told_ans, ← e1] at h1
            rw [told_n, told_key2, told_ans2, ← e2] at h2
            have e3 : (prNew st name s d).ps = st.ps ++ [told d name s Z] := by rw [HZ.out]; rfl
            refine Tab4.mk2 HT.out.a HT.out.g d (by rw [e3]; exact h1) (by rw [e3]; exact h2) ?_
            rw [e3]
            intro t ht
            rcases List.mem_append.1 ht with h5 | h5
            · exact HT.out.w t h5
            · rw [List.mem_singleton.1 h5]
              exact ⟨told_len d name s _ hl, told_x d name s _ hl HS0.out⟩)
          go_wp2_with (first
            | (at_mapUpdate
               refine Mp.wpList_upd rfl (.tmp 66) (.tmp 67) (.tmp 70) rfl keys_entry Tryz.underlying91 HM8.out (name, s) (Z, []) rfl rfl rfl ?_
               intro v9 hm9 hg9 hs9
               rw [Hmo.out] at hm9 hg9
               obtain ⟨ff2, fb2, hx9, ho3, ho4⟩ := X8.out.putS d hm9 hg9
               have hMne : ∀ k cs t, ((v6.setCell ⟨gd, 0, none⟩ (.string ⟨name.toArray⟩)).setCell ⟨gd, 1, none⟩ (.string ⟨Z.toArray⟩)).heap[k]? = some (Obj.cells cs t (0, 0)) → v9.heap[k]? = some (Obj.cells cs t (0, 0)) := fun k cs t hk => (by_block hg9 k (lt_of_heap hk) (fun e => (X8.out.side d).cells hk e.symm)).trans hk
               have EA9 := Lib.hid (hMne _ _ _ EA8.out)
               have ED9 := Lib.hid (hMne _ _ _ ED8.out)
               have C9 := Lib.hid (Ch.trans C8.out (Ch.by_ (F := FF G L) hg9 (ff_side G L d)))
               have X9 := Lib.hid hx9
               have HM9 := Lib.hid (show Mp.Mp kv kv v9 Mt (own (!d) ff1 fb1) by have := X9.out.side (!d); rw [ho4] at this; rw [Hmt.out]; exact this)
               have HO4 := Lib.hid ho3
               have HO5 := Lib.hid ho4
               obtain ⟨t0, t1, t2, t3⟩ := row_cells EA9.out
               obtain ⟨u0, u1, u2, u3⟩ := row_cells ED9.out
               clear hm9 hg9 hs9 hx9 hMne ho3 ho4)
            | (at_mapUpdate
               refine Mp.wpList_upd rfl (.tmp 71) (.tmp 72) (.tmp 75) rfl keys_entry Tryz.underlying91 HM9.out (name, Z) (s, []) rfl rfl rfl ?_
               intro vA hmA hgA hsA
               rw [Hmt.out] at hmA hgA
               obtain ⟨ff3, fb3, hxA, ho3, ho4⟩ := X9.out.putS (!d) hmA hgA
               rw [Bool.not_not] at ho4
               have EDA := Lib.hid (show vA.heap[gd]? = some (.cells #[.string ⟨name.toArray⟩, .string ⟨Z.toArray⟩] 135 (0, 0)) from (by_block hgA gd (lt_of_heap ED9.out) (fun e => (X9.out.side (!d)).cells ED9.out e.symm)).trans ED9.out)
               have CA := Lib.hid (Ch.trans C9.out (Ch.by_ (F := FF G L) hgA (ff_side G L (!d))))
               have XA := Lib.hid hxA
               have HO6 := Lib.hid ho3
               have HO7 := Lib.hid (ho4.trans HO4.out)
               obtain ⟨z0, z1, z2, z3⟩ := row_cells EDA.out
               obtain ⟨cz, wz, hcvz, hcz, hbq, hgz⟩ := conv_bq vA Z
               rw [HZl.out] at hcvz hcz
               obtain ⟨gb, hgb⟩ : ∃ gb, gb = vA.heap.size := ⟨_, rfl⟩
               rw [← hgb] at hcvz hbq
               have HGB := Lib.hid (show w.heap.size ≤ gb by rw [hgb]; exact CA.out.size)
               have HBQ := Lib.hid hbq
               have XZ := Lib.hid (XA.out.grow hgz)
               have CZ := Lib.hid (Ch.trans CA.out (Ch.grown hgz))
               clear hmA hgA hsA hxA ho3 ho4 hgb hbq hgz))
          go_ret
          rw [HF.out]
          have hTZ := HTn.out ff3 fb3 HO7.out HO6.out
          have hXZ := XZ.out
          rw [HBB.out, HK.out] at hXZ
          refine ⟨some ⟨gb, 0, none⟩, ns, cz, rfl, ?_, hcz, ?_, (fun x hx _ => by simp only [Option.some.injEq] at hx; subst hx; exact HGB.out), ⟨A2, n2, c2, fa, fg, ff3, fb3, ?_, hTZ⟩, CZ.out⟩
          · show (freeY st name s d).length = ns
            rw [freeY_len, HSL.out]
          · show Rd _ _ _ (freeY st name s d)
            rw [← HZ.out]
            exact HBQ.out.rd
          · show Lr wz G L A2 n2 c2 (st.seed.drop s.length) _ _ fa fg ff3 fb3
            rw [HSL.out]
            exact hXZ
        case' false =>
          have X8 := Lib.hid XV.out
          have C8 := Lib.hid CV.out
          have EA8 := Lib.hid EAV.out
          have ED8 := Lib.hid EDV.out
          have HZ := Lib.hid (show Y = freeY st name s d from (adv_at (fun u => taken st.ps name u (!d)) 0 255 Y (by omega) (fun j hj => by omega) HTK.out).symm.trans (by rw [HYd.out]; rfl))
          have HO1 := Lib.hid (HT.out.side (!d))
          have HO2 := Lib.hid (HT.out.side d)
          have HO3 := Lib.hid HFA.out
          have HBB := Lib.hid (show st.bad = (st.bad || taken st.ps name (drawO st.seed s.length) (!d)) by rw [← HYd.out, HTK.out]; simp)
          clear XV CV EAV EDV X6 C6 EA6 ED6
          obtain ⟨q0, q1, q2, q3⟩ := row_cells EA8.out
          obtain ⟨r0, r1, r2, r3⟩ := row_cells ED8.out
          have HM8 := Lib.hid (show Mp.Mp kv kv (v.alloc (.cells #[.string ⟨p1.toArray⟩, .string ⟨k1.toArray⟩] 147)) Mo (own d ff fb) by rw [Hmo.out]; exact X8.out.side d)
          have HZl := Lib.hid (show Y.length = ns by rw [HZ.out, freeY_len, HSL.out])
          have HNT := Lib.hid (show (own (!d) ff fb) (name, Y) = none by
            have h1 := HO1.out.has name Y
            have h2 : taken st.ps name Y (!d) = false := by
              obtain ⟨i, hi, hj, hn⟩ := adv_free st.ps name (drawO st.seed s.length) (!d) (by rw [drawO_len, HSL.out]; omega) (by have := HFew.out.2.1; omega)
              have h3 : Y = itn i (drawO st.seed s.length) := HZ.out.trans (adv_at _ i 255 _ hi hj hn)
              rw [h3]; exact hn
            rw [h2] at h1
            exact Option.isNone_iff_eq_none.1 (by simpa using h1))
          have HTn := Lib.hid (fun (ffz fbz : MS) (e1 : own d ffz fbz = Mp.put (own d ff fb) (name, s) (Y, [])) (e2 : own (!d) ffz fbz = Mp.put (own (!d) ff fb) (name, Y) (s, [])) => show Tab4 (prNew st name s d) fa fg ffz fbz from by
            have hl : Y.length = s.length := by rw [HZl.out, HSL.out]
            have h1 := HO2.out.add (told d name s Y) (told_len d name s _ hl) (by rw [told_n, told_key]; exact HO3.out)
            have h2 := HO1.out.add (told d name s Y) (told_len d name s _ hl) (by rw [told_n, told_key2]; exact HNT.out)
            rw [told_n, told_key, told_ans, ← e1] at h1
            rw [told_n, told_key2, told_ans2, ← e2] at h2
            have e3 : (prNew st name s d).ps = st.ps ++ [told d name s Y] := by rw [HZ.out]; rfl
            refine Tab4.mk2 HT.out.a HT.out.g d (by rw [e3]; exact h1) (by rw [e3]; exact h2) ?_
            rw [e3]
            intro t ht
            rcases List.mem_append.1 ht with h5 | h5
            · exact HT.out.w t h5
            · rw [List.mem_singleton.1 h5]
              exact ⟨told_len d name s _ hl, told_x d name s _ hl HS0.out⟩)
          go_wp2_with (first
            | (at_mapUpdate
               refine Mp.wpList_upd rfl (.tmp 66) (.tmp 67) (.tmp 70) rfl keys_entry Tryz.underlying91 HM8.out (name, s) (Y, []) rfl rfl rfl ?_
               intro v9 hm9 hg9 hs9
               rw [Hmo.out] at hm9 hg9
               obtain ⟨ff2, fb2, hx9, ho3, ho4⟩ := X8.out.putS d hm9 hg9
               have hMne : ∀ k cs t, (v.alloc (.cells #[.string ⟨p1.toArray⟩, .string ⟨k1.toArray⟩] 147)).heap[k]? = some (Obj.cells cs t (0, 0)) → v9.heap[k]? = some (Obj.cells cs t (0, 0)) := fun k cs t hk => (by_block hg9 k (lt_of_heap hk) (fun e => (X8.out.side d).cells hk e.symm)).trans hk
               have EA9 := Lib.hid (hMne _ _ _ EA8.out)
               have ED9 := Lib.hid (hMne _ _ _ ED8.out)
               have C9 := Lib.hid (Ch.trans C8.out (Ch.by_ (F := FF G L) hg9 (ff_side G L d)))
               have X9 := Lib.hid hx9
               have HM9 := Lib.hid (show Mp.Mp kv kv v9 Mt (own (!d) ff fb) by have := X9.out.side (!d); rw [ho4] at this; rw [Hmt.out]; exact this)
               have HO4 := Lib.hid ho3
               have HO5 := Lib.hid ho4
               obtain ⟨t0, t1, t2, t3⟩ := row_cells EA9.out
               obtain ⟨u0, u1, u2, u3⟩ := row_cells ED9.out
               clear hm9 hg9 hs9 hx9 hMne ho3 ho4)
            | (at_mapUpdate
               refine Mp.wpList_upd rfl (.tmp 71) (.tmp 72) (.tmp 75) rfl keys_entry Tryz.underlying91 HM9.out (name, Y) (s, []) rfl rfl rfl ?_
               intro vA hmA hgA hsA
               rw [Hmt.out] at hmA hgA
               obtain ⟨ff3, fb3, hxA, ho3, ho4⟩ := X9.out.putS (!d) hmA hgA
               rw [Bool.not_not] at ho4
               have EDA := Lib.hid (show vA.heap[gd]? = some (.cells #[.string ⟨name.toArray⟩, .string ⟨Y.toArray⟩] 135 (0, 0)) from (by_block hgA gd (lt_of_heap ED9.out) (fun e => (X9.out.side (!d)).cells ED9.out e.symm)).trans ED9.out)
               have CA := Lib.hid (Ch.trans C9.out (Ch.by_ (F := FF G L) hgA (ff_side G L (!d))))
               have XA := Lib.hid hxA
               have HO6 := Lib.hid ho3
               have HO7 := Lib.hid (ho4.trans HO4.out)
               obtain ⟨z0, z1, z2, z3⟩ := row_cells EDA.out
               obtain ⟨cz, wz, hcvz, hcz, hbq, hgz⟩ := conv_bq vA Y
               rw [HZl.out] at hcvz hcz
               obtain ⟨gb, hgb⟩ : ∃ gb, gb = vA.heap.size := ⟨_, rfl⟩
               rw [← hgb] at hcvz hbq
               have HGB := Lib.hid (show w.heap.size ≤ gb by rw [hgb]; exact CA.out.size)
               have HBQ := Lib.hid hbq
               have XZ := Lib.hid (XA.out.grow hgz)
               have CZ := Lib.hid (Ch.trans CA.out (Ch.grown hgz))
               clear hmA hgA hsA hxA ho3 ho4 hgb hbq hgz))
          go_ret
          rw [HF.out]
          have hTZ := HTn.out ff3 fb3 HO7.out HO6.out
          have hXZ := XZ.out
          rw [HBB.out, HK.out] at hXZ
          refine ⟨some ⟨gb, 0, none⟩, ns, cz, rfl, ?_, hcz, ?_, (fun x hx _ => by simp only [Option.some.injEq] at hx; subst hx; exact HGB.out), ⟨A2, n2, c2, fa, fg, ff3, fb3, ?_, hTZ⟩, CZ.out⟩
          · show (freeY st name s d).length = ns
            rw [freeY_len, HSL.out]
          · show Rd _ _ _ (freeY st name s d)
            rw [← HZ.out]
            exact HBQ.out.rd
          · show Lr wz G L A2 n2 c2 (st.seed.drop s.length) _ _ fa fg ff3 fb3
            rw [HSL.out]
            exact hXZ
end
end Go.Proofs.YtjklgmhaebjjaaaGreat.S11
