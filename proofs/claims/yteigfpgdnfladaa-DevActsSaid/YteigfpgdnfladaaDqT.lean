/-
  Contracts: the predicate of Tamper, slices.IndexFunc, slices.DeleteFunc at it.
-/
import Derived.Test.YteigfpgdnfladaaDqP
import Derived.Lib.SliceRun
namespace Go.Proofs.Yteigfpgdnfladaa.S13
open Cf
open Go.RowKit
set_option linter.unusedVariables false
set_option linter.unusedSimpArgs false
theorem pred_any (w : World) (g Ba k a : Nat) (h1 : w.cell? ⟨g, 0, none⟩ = some (.int .i64 (k : Int))) (h2 : w.cell? ⟨Ba, 0, none⟩ = some (.int .i64 (a : Int))) :
    Calls Try.prog 42 #[.pointer (some ⟨g, 0, none⟩), .pointer (some ⟨Ba, 0, none⟩)] w fun e w' => e = .returned (.bool (decide (k = a))) ∧ Grown w w' := by
  go_enter Try.func42, Try.ntmps42
  go_wp2_with fail
  refine restS_begin (fun v : World => v.cell? ⟨g, 0, none⟩ = some (.int .i64 (k : Int)) ∧ v.cell? ⟨Ba, 0, none⟩ = some (.int .i64 (a : Int))) (by kernel_rfl) ?_
  have SV := Lib.hid (show w.drew.cell? ⟨g, 0, none⟩ = some (.int .i64 (k : Int)) ∧ w.drew.cell? ⟨Ba, 0, none⟩ = some (.int .i64 (a : Int)) from ⟨h1, h2⟩)
  clear h1 h2
  refine restS_take (i := 0) SV.out rfl (by kernel_rfl) (by kernel_rfl) (by kernel_rfl) (by rfl) (fun v hv => by obtain ⟨v1, v2⟩ := hv; go_simp; try with_reducible rfl) ?_
  try simp only [Act.put, List.setIfInBounds_toArray, List.set_cons_zero, List.set_cons_succ]
  refine restS_take (i := 1) SV.out rfl (by kernel_rfl) (by kernel_rfl) (by kernel_rfl) (by rfl) (fun v hv => by obtain ⟨v1, v2⟩ := hv; go_simp; try with_reducible rfl) ?_
  try simp only [Act.put, List.setIfInBounds_toArray, List.set_cons_zero, List.set_cons_succ]
  refine restS_take (i := 2) SV.out rfl (by kernel_rfl) (by kernel_rfl) (by kernel_rfl) (by rfl) (fun v hv => by obtain ⟨v1, v2⟩ := hv; go_simp; try with_reducible rfl) ?_
  try simp only [Act.put, List.setIfInBounds_toArray, List.set_cons_zero, List.set_cons_succ]
  refine restS_take (i := 3) SV.out rfl (by kernel_rfl) (by kernel_rfl) (by kernel_rfl) (by rfl) (fun v hv => by obtain ⟨v1, v2⟩ := hv; go_simp; try with_reducible rfl) ?_
  try simp only [Act.put, List.setIfInBounds_toArray, List.set_cons_zero, List.set_cons_succ]
  refine restS_take (i := 4) SV.out rfl (by kernel_rfl) (by kernel_rfl) (by kernel_rfl) (by rfl) (fun v hv => by obtain ⟨v1, v2⟩ := hv; go_simp; try with_reducible rfl) ?_
  try simp only [Act.put, List.setIfInBounds_toArray, List.set_cons_zero, List.set_cons_succ]
  refine restS_take (i := 5) SV.out rfl (by kernel_rfl) (by kernel_rfl) (by kernel_rfl) (by rfl) (fun v hv => by obtain ⟨v1, v2⟩ := hv; go_simp; try with_reducible rfl) ?_
  try simp only [Act.put, List.setIfInBounds_toArray, List.set_cons_zero, List.set_cons_succ]
  refine restS_take (i := 6) SV.out rfl (by kernel_rfl) (by kernel_rfl) (by kernel_rfl) (by rfl) (fun v hv => by obtain ⟨v1, v2⟩ := hv; go_simp; try with_reducible rfl) ?_
  try simp only [Act.put, List.setIfInBounds_toArray, List.set_cons_zero, List.set_cons_succ]
  refine restS_done (by kernel_rfl) ?_
  go_wp2
  go_ret
  have hb : ((k : Int) == (a : Int)) = decide (k = a) := by rw [Bool.eq_iff_iff]; simp; omega
  rw [← hb]
  exact ⟨rfl, (Below.refl _ w).drew⟩
/-- What the two walk over: a row of writes, and the number that is sought. -/
structure Df (W : World) (Ap : Option Addr) (cap : Nat) (L : List Pw) (a Ba : Nat) : Prop where
  row : Ow W 0 63 Ap cap (L.map fun p => pv p.1)
  wr : Wr W L
  box : W.cell? ⟨Ba, 0, none⟩ = some (.int .i64 (a : Int))
  ab : ∀ x, Ap = some x → x.block ≠ Ba
  aw : ∀ x, Ap = some x → ∀ p ∈ L, p.1 ≠ x.block
theorem Df.grow {W W' : World} {Ap : Option Addr} {cap a Ba : Nat} {L : List Pw} (h : Df W Ap cap L a Ba) (hg : Grown W W') : Df W' Ap cap L a Ba :=
  { h with row := owGrow h.row hg, wr := h.wr.grow hg, box := (hg.cell (p := ⟨Ba, 0, none⟩) (World.block_lt_of_cell? W _ h.box)).trans h.box }
theorem Df.at_ {W : World} {Ap : Option Addr} {cap a Ba : Nat} {L : List Pw} (h : Df W Ap cap L a Ba) (k : Nat) (hk : k < L.length) : ∃ g, Ap = some ⟨g, 0, none⟩ ∧ W.cell? ⟨g, k, none⟩ = some (.pointer (some ⟨L[k].1, 0, none⟩)) ∧ W.cell? ⟨L[k].1, 0, none⟩ = some (.int .i64 (L[k].2.1 : Int)) := by
  obtain ⟨g, e, _, _, hc, _⟩ := h.row.at_ k (by rw [List.length_map]; exact hk)
  exact ⟨g, e, by rw [hc]; simp [pv], (h.wr.at_ (List.getElem_mem hk)).1⟩
def NoneOf (a : Nat) (L : List Pw) : Prop := ∀ p ∈ L, p.2.1 ≠ a
def HitAt (a : Nat) (L : List Pw) (k : Nat) : Prop := ∃ p, L[k]? = some p ∧ p.2.1 = a
set_option maxHeartbeats 1000000 in
theorem index_any (w : World) (Ap : Option Addr) (cap np : Nat) (L : List Pw) (a Ba : Nat) (h : Df w Ap cap L a Ba) (hn : L.length = np) (hl : np ≤ 1000) :
    Calls Try.prog 45 #[.slice Ap np cap, .func (.func 42) #[] #[.pointer (some ⟨Ba, 0, none⟩)]] w fun e w' =>
      Grown w w' ∧ ((e = .returned (.int .i64 (-1)) ∧ NoneOf a L) ∨ ∃ k : Nat, k < np ∧ e = .returned (.int .i64 (k : Int)) ∧ NoneOf a (L.take k) ∧ HitAt a L k) := by
  have HD := Lib.hid h
  have HN := Lib.hid hn
  clear h hn
  go_enter Try.func45, Try.ntmps45
  go_wp2_with fail
  go_loopw [8] (fun v8 wr => ∃ k : Nat, v8 = .int .i64 (k : Int) ∧ k ≤ np ∧ Hid (Grown w wr) ∧ Hid (NoneOf a (L.take k))) (fun v8 _ => np - (intOf v8).toNat)
  case atStart => exact ⟨0, rfl, Nat.zero_le _, Grown.refl _, by intro p hp; simp at hp⟩
  case round =>
    obtain ⟨k, rfl, hk, HG, HF⟩ := hrel
    by_cases hlt : k < np
    · have bk : (k : Int) < (np : Int) := by omega
      have hkL : k < L.length := by rw [HN.out]; exact hlt
      obtain ⟨g, rfl, hc1, hc2⟩ := (HD.out.grow HG.out).at_ k hkL
      obtain ⟨p, hp⟩ : ∃ p, p = L[k] := ⟨_, rfl⟩
      rw [← hp] at hc1 hc2
      have HP := Lib.hid (pred_any wr p.1 Ba p.2.1 a hc2 (HD.out.grow HG.out).box)
      have HT := Lib.hid (show L.take (k + 1) = L.take k ++ [p] by rw [at_snoc L k hkL, hp])
      have HAt := Lib.hid (show L[k]? = some p by rw [List.getElem?_eq_getElem hkL, hp])
      clear hp hc2 hkL
      go_wp2_with fail
      refine HP.out.mono ?_
      rintro e w1 ⟨rfl, hg⟩
      have HG1 := Lib.hid (HG.out.trans hg)
      clear hg HP HG hc1
      by_cases hpa : p.2.1 = a
      · rw [decide_eq_true hpa]
        go_wp2
        go_ret
        exact ⟨HG1.out, .inr ⟨k, hlt, rfl, HF.out, ⟨p, HAt.out, hpa⟩⟩⟩
      · rw [decide_eq_false hpa]
        go_wp2
        go_roundw
        case rel => exact ⟨k + 1, by simp, by omega, HG1.out, by
          rw [HT.out]
          intro q hq
          rcases List.mem_append.1 hq with h1 | h1
          · exact HF.out q h1
          · simp only [List.mem_singleton] at h1; rw [h1]; exact hpa⟩
        case measure => simp [intOf]; omega
    · have bk : ¬ (k : Int) < (np : Int) := by omega
      obtain rfl : k = np := by omega
      have HF2 := Lib.hid (show NoneOf a L by have := HF.out; rwa [List.take_of_length_le (by rw [HN.out]; exact Nat.le_refl _)] at this)
      go_wp2
      go_ret
      exact ⟨HG.out, .inl ⟨rfl, HF2.out⟩⟩
theorem keepW_none {a : Nat} {L : List Pw} (h : NoneOf a L) : keepW a L = L := List.filter_eq_self.2 fun p hp => decide_eq_true (h p hp)
theorem keepW_le (a : Nat) (L : List Pw) : (keepW a L).length ≤ L.length := List.length_filter_le _ _
/-- Where the loop of DeleteFunc stands. -/
structure De (w : World) (Ap : Option Addr) (cap np : Nat) (L : List Pw) (a i j : Nat) (vs : List Value) (W : World) : Prop where
  gr : w.grownBy W (Value.slice Ap np cap).ownBlock
  row : Ow W 0 63 Ap cap vs
  len : vs.length = np
  head : vs.take i = (keepW a (L.take j)).map fun p => pv p.1
  tail : ∀ t, j ≤ t → vs[t]? = (L.map fun p => pv p.1)[t]?
theorem De.wr {w W : World} {Ap : Option Addr} {cap np a i j Ba : Nat} {L : List Pw} {vs : List Value} (h : De w Ap cap np L a i j vs W) (hd : Df w Ap cap L a Ba) : Wr W L :=
  hd.wr.keep fun p hp => h.gr.block p.1 (hd.wr.lt p hp) (fun e => by obtain ⟨x, hx, hxk⟩ := own_blk e; exact hd.aw x hx p hp hxk.symm)
theorem De.box {w W : World} {Ap : Option Addr} {cap np a i j Ba : Nat} {L : List Pw} {vs : List Value} (h : De w Ap cap np L a i j vs W) (hd : Df w Ap cap L a Ba) : W.cell? ⟨Ba, 0, none⟩ = some (.int .i64 (a : Int)) :=
  (World.cell?_of_block (a := ⟨Ba, 0, none⟩) (h.gr.block Ba (World.block_lt_of_cell? w _ hd.box) (fun e => by obtain ⟨x, hx, hxk⟩ := own_blk e; exact hd.ab x hx hxk))).trans hd.box
theorem De.grow {w W W' : World} {Ap : Option Addr} {cap np a i j : Nat} {L : List Pw} {vs : List Value} (h : De w Ap cap np L a i j vs W) (hg : Grown W W') : De w Ap cap np L a i j vs W' :=
  { h with gr := ⟨hg.os.trans h.gr.os, hg.tape.trans h.gr.tape, hg.output.trans h.gr.output, Nat.le_trans h.gr.size hg.size, fun k hk hne => (hg.block k (Nat.lt_of_lt_of_le hk h.gr.size)).trans (h.gr.block k hk hne)⟩
           row := owGrow h.row hg }
theorem take_set_at (vs : List Value) (i : Nat) (hi : i < vs.length) (v : Value) : (vs.set i v).take (i + 1) = vs.take i ++ [v] := by
  rw [at_snoc _ i (by rw [List.length_set]; exact hi), List.getElem_set_self, List.take_set_of_le (Nat.le_refl i)]
theorem De.skip {w W : World} {Ap : Option Addr} {cap np a i j : Nat} {L : List Pw} {vs : List Value} (h : De w Ap cap np L a i j vs W) (p : Pw) (hp : L.take (j + 1) = L.take j ++ [p]) (hpa : p.2.1 = a) : De w Ap cap np L a i (j + 1) vs W :=
  { h with head := by rw [hp, keepW_snoc, if_pos hpa]; exact h.head
           tail := fun t ht => h.tail t (by omega) }
theorem De.put {w W : World} {g : Nat} {cap np a i j : Nat} {L : List Pw} {vs : List Value} (h : De w (some ⟨g, 0, none⟩) cap np L a i j vs W) (p : Pw) (hp : L.take (j + 1) = L.take j ++ [p]) (hpa : ¬ p.2.1 = a) (hi : i < np) (hij : i < j) : De w (some ⟨g, 0, none⟩) cap np L a (i + 1) (j + 1) (vs.set i (pv p.1)) (W.setCell ⟨g, i, none⟩ (pv p.1)) := by
  have hl := h.len
  exact { gr := ⟨h.gr.os, h.gr.tape, h.gr.output, by simpa using h.gr.size, fun k hk hne => (heap_setCell_other _ _ _ _ (fun e => hne (by rw [e]; rfl))).trans (h.gr.block k hk hne)⟩
          row := h.row.set i (by rw [hl]; exact hi) _
          len := by rw [List.length_set]; exact hl
          head := by rw [take_set_at vs i (by rw [hl]; exact hi), h.head, hp, keepW_snoc, if_neg hpa, List.map_append]; rfl
          tail := fun t ht => by rw [List.getElem?_set_ne (by omega)]; exact h.tail t (by omega) }
/-- Behind the clearing. -/
theorem De.cleared {w W : World} {g : Nat} {cap np a i j : Nat} {L : List Pw} {vs : List Value} (h : De w (some ⟨g, 0, none⟩) cap np L a i j vs W) (hj : np ≤ j) (hn : L.length = np) (hi : i = (keepW a L).length) (hil : i ≤ np) (n : Nat) (hni : i + n = np) :
    Ow (W.setCells g i (List.replicate n (.pointer none))) 0 63 (some ⟨g, 0, none⟩) cap ((keepW a L).map fun p => pv p.1) ∧ w.grownBy (W.setCells g i (List.replicate n (.pointer none))) (Value.slice (some ⟨g, 0, none⟩) np cap).ownBlock := by
  have hs : ∀ (vs : List Value) (o : Nat) (V : World), w.grownBy V (Value.slice (some ⟨g, 0, none⟩) np cap).ownBlock → w.grownBy (V.setCells g o vs) (Value.slice (some ⟨g, 0, none⟩) np cap).ownBlock := by
    intro vs
    induction vs with
    | nil => intro o V hv; exact hv
    | cons v r ih =>
      intro o V hv
      rw [World.setCells]
      exact ih (o + 1) _ ⟨hv.os, hv.tape, hv.output, by simpa using hv.size, fun k hk hne => (heap_setCell_other _ _ _ _ (fun e => hne (by rw [e]; rfl))).trans (hv.block k hk hne)⟩
  refine ⟨?_, hs _ _ _ h.gr⟩
  rcases h.row.form with ⟨e1, _⟩ | ⟨g', cur, e1, hb, hh, hc, hm, hcs, ht⟩
  · cases e1
  · simp only [Option.some.injEq, Addr.mk.injEq] at e1
    obtain ⟨rfl, _⟩ := e1
    have hl := h.len
    have hh' : W.heap[g]? = some (.cells cur.toList.toArray 63 (0, 0)) := by simpa using hh
    obtain ⟨l, q1, q2, q3⟩ := heap_setCells_same g 63 (List.replicate n (.pointer none)) i W cur.toList hh' (by rw [List.length_replicate, Array.length_toList, hcs]; omega)
    replace q2 : l.length = cap := by rw [q2]; simpa using hcs
    refine ⟨by simp, .inr ⟨g, cap, l.toArray, by simp, hb, q1, by rw [List.length_map]; omega, hm, by simp [q2], ?_⟩⟩
    rw [Nat.mul_one, List.length_map, List.toList_toArray, ← hi]
    have h9 := h.head
    rw [show L.take j = L from List.take_of_length_le (by omega)] at h9
    rw [← h9]
    apply List.ext_getElem?
    intro t
    rw [List.getElem?_take, List.getElem?_take]
    by_cases hti : t < i
    · rw [if_pos hti, if_pos hti, q3, if_neg (by omega)]
      have : (cur.toList.take vs.length)[t]? = vs[t]? := by rw [ht]
      rwa [List.getElem?_take, if_pos (by omega)] at this
    · rw [if_neg hti, if_neg hti]
theorem zeroPw (w : World) : (zeroValue 63).run Try.prog w = .ok (.pointer none) w := by
  obtain ⟨i0, hi, hz0, hz1, hz2⟩ := info_parts infoPw
  simp [zeroValue, typeInfo, hi, hz0]
set_option maxHeartbeats 2000000 in
theorem delete_any (w : World) (Ap : Option Addr) (cap np : Nat) (L : List Pw) (a Ba : Nat) (h : Df w Ap cap L a Ba) (hn : L.length = np) (hl : np ≤ 1000) (hcap : np ≤ cap) (hcap2 : cap ≤ 9223372036854775807) :
    Calls Try.prog 41 #[.slice Ap np cap, .func (.func 42) #[] #[.pointer (some ⟨Ba, 0, none⟩)]] w fun e w' =>
      e = .returned (.slice Ap (keepW a L).length cap) ∧ Ow w' 0 63 Ap cap ((keepW a L).map fun p => pv p.1) ∧ w.grownBy w' (Value.slice Ap np cap).ownBlock := by
  have HD := Lib.hid h
  have HN := Lib.hid hn
  have HI := Lib.hid (index_any w Ap cap np L a Ba h hn hl)
  clear h hn
  go_enter Try.func41, Try.ntmps41
  go_wp2_with fail
  refine HI.out.mono ?_
  rintro e w1 ⟨hg, ⟨rfl, hno⟩ | ⟨k, hk, rfl, hno, hit⟩⟩
  · have HG := Lib.hid hg
    have HE := Lib.hid (keepW_none hno)
    clear hg hno HI
    go_wp2
    go_ret
    rw [HE.out]
    exact ⟨by rw [HN.out]; rfl, owGrow HD.out.row HG.out, ⟨HG.out.os, HG.out.tape, HG.out.output, HG.out.size, fun k hk _ => HG.out.block k hk⟩⟩
  · obtain ⟨p0, hp0, hp0a⟩ := hit
    have hkL : k < L.length := by rw [HN.out]; exact hk
    obtain ⟨g, rfl, -, -⟩ := HD.out.at_ k hkL
    have HT0 := Lib.hid (show L.take (k + 1) = L.take k ++ [p0] by rw [List.take_add_one, hp0]; rfl)
    have hE0 := keepW_none hno
    have HDe := Lib.hid (show De w (some ⟨g, 0, none⟩) cap np L a k (k + 1) (L.map fun p => pv p.1) w1 from
      { gr := ⟨hg.os, hg.tape, hg.output, hg.size, fun k hk _ => hg.block k hk⟩, row := owGrow HD.out.row hg, len := by rw [List.length_map, HN.out],
        head := by rw [HT0.out, keepW_snoc, if_pos hp0a, hE0, List.map_take], tail := fun _ _ => rfl })
    have HK0 := Lib.hid (show k = (keepW a (L.take (k + 1))).length by rw [HT0.out, keepW_snoc, if_pos hp0a, hE0, List.length_take]; omega)
    have hkm : ((k : Int) == -1) = false := by rw [beq_eq_false_iff_ne]; omega
    clear hg hno HI hp0 hp0a hE0
    go_wp2_with fail
    clear hkm
    go_loopw [5, 6] (fun v5 v6 wr => ∃ (i j : Nat) (vs : List Value), v5 = .int .i64 (i : Int) ∧ v6 = .int .i64 (j : Int) ∧ i < j ∧ j ≤ np ∧ Hid (i = (keepW a (L.take j)).length) ∧ Hid (De w (some ⟨g, 0, none⟩) cap np L a i j vs wr)) (fun _ v6 _ => np - (intOf v6).toNat)
    case atStart => exact ⟨k, k + 1, _, rfl, by simp, by omega, by omega, HK0.out, HDe.out⟩
    case round =>
      clear HDe HK0 hkL HT0 hk
      obtain ⟨i, j, vs, rfl, rfl, hij, hj, HIl, HDe⟩ := hrel
      by_cases hlt : j < np
      · have bk : (j : Int) < (np : Int) := by omega
        have hjL : j < L.length := by rw [HN.out]; exact hlt
        obtain ⟨p, hp⟩ : ∃ p, p = L[j] := ⟨_, rfl⟩
        have hpm : p ∈ L := by rw [hp]; exact List.getElem_mem hjL
        have hvj : vs[j]? = some (pv p.1) := by rw [HDe.out.tail j (Nat.le_refl _), List.getElem?_map, List.getElem?_eq_getElem hjL, hp]; rfl
        obtain ⟨g', e', _, _, hcj0, _⟩ := HDe.out.row.at_ j (by rw [HDe.out.len]; exact hlt)
        simp only [Option.some.injEq, Addr.mk.injEq] at e'
        obtain ⟨rfl, _⟩ := e'
        have hcj : wr.cell? ⟨g, j, none⟩ = some (.pointer (some ⟨p.1, 0, none⟩)) := by
          rw [hcj0]
          have h7 : j < vs.length := by rw [HDe.out.len]; exact hlt
          rw [List.getElem?_eq_getElem h7] at hvj
          exact hvj
        have HP := Lib.hid (pred_any wr p.1 Ba p.2.1 a ((HDe.out.wr HD.out).at_ hpm).1 (HDe.out.box HD.out))
        have HT := Lib.hid (show L.take (j + 1) = L.take j ++ [p] by rw [at_snoc L j hjL, hp])
        have bi : (i : Int) < (np : Int) := by omega
        clear hp hpm hvj hcj0 hjL
        go_wp2_with fail
        refine HP.out.mono ?_
        rintro e w2 ⟨rfl, hg⟩
        have HDe2 := Lib.hid (HDe.out.grow hg)
        clear hg HP HDe hcj
        by_cases hpa : p.2.1 = a
        · rw [decide_eq_true hpa]
          have HIl2 := Lib.hid (show i = (keepW a (L.take (j + 1))).length by rw [HT.out, keepW_snoc, if_pos hpa]; exact HIl.out)
          have HDe3 := Lib.hid (HDe2.out.skip p HT.out hpa)
          clear hpa
          go_wp2
          go_roundw
          case rel => exact ⟨i, j + 1, vs, rfl, by simp, by omega, by omega, HIl2.out, HDe3.out⟩
          case measure => simp [intOf]; omega
        · rw [decide_eq_false hpa]
          have HIl2 := Lib.hid (show i + 1 = (keepW a (L.take (j + 1))).length by rw [HT.out, keepW_snoc, if_neg hpa, List.length_append, ← HIl.out]; rfl)
          have HDe3 := Lib.hid (HDe2.out.put p HT.out hpa (by omega) hij)
          obtain ⟨g', e', _, _, hci, hfi⟩ := HDe2.out.row.at_ i (by rw [HDe2.out.len]; omega)
          simp only [Option.some.injEq, Addr.mk.injEq] at e'
          obtain ⟨rfl, _⟩ := e'
          clear hpa
          go_wp2
          go_roundw
          case rel => exact ⟨i + 1, j + 1, _, by simp, by simp, by omega, by omega, HIl2.out, HDe3.out⟩
          case measure => simp [intOf]; omega
      · have bk : ¬ (j : Int) < (np : Int) := by omega
        obtain rfl : j = np := by omega
        have hIl := HIl.out
        rw [List.take_of_length_le (by rw [HN.out]; exact Nat.le_refl _)] at hIl
        have HK := Lib.hid hIl
        obtain ⟨n, hn⟩ : ∃ n, n = j - i := ⟨_, rfl⟩
        have HCl := Lib.hid (HDe.out.cleared (Nat.le_refl _) HN.out hIl (by omega) n (by omega))
        have hcc : ∀ t, t < n → (wr.cell? ⟨g, i + t, none⟩).isSome = true ∧ wr.frozen? ⟨g, i + t, none⟩ = false := fun t ht => by
          obtain ⟨g', e', _, _, hc, hf⟩ := HDe.out.row.at_ (i + t) (by rw [HDe.out.len]; omega)
          simp only [Option.some.injEq, Addr.mk.injEq] at e'
          obtain ⟨rfl, _⟩ := e'
          exact ⟨by rw [hc]; rfl, hf⟩
        have hcl := fun ty => Lib.run_clear_slice (P := Try.prog) wr _ _ ty _ Try.underlying59 zeroPw rfl rfl g i n (cap - i) (by omega) (fun t ht => (hcc t ht).1) (fun t ht => (hcc t ht).2)
        clear hcc hIl
        subst hn
        go_wp2
        go_ret
        exact ⟨by rw [← HK.out]; rfl, HCl.out.1, HCl.out.2⟩
end Go.Proofs.Yteigfpgdnfladaa.S13
