/-
  The reference's cache in memory; its Drop. A region that draws its order: two operations that may come up at once, each of which is then walked.
-/
import Derived.Test.YthakdjaaknbmpaaMgKactsMain2
import Derived.Test.YthakdjaaknbmpaaMgKactsMain13
import Derived.Test.YthakdjaaknbmpaaMgKactsMain9
namespace Go.Proofs.Ythakdjaaknbmpaa.S14
open S13
open Cf
open Go.RowKit
set_option linter.unusedVariables false
set_option linter.unusedSimpArgs false

def kvs (l : Ka) : List Value := l.map fun p => iv p.1
def wvs (l : Ka) : List Value := l.map fun p => sv p.2
theorem kvs_len (l : Ka) : (kvs l).length = l.length := List.length_map _
theorem wvs_len (l : Ka) : (wvs l).length = l.length := List.length_map _
/-- The footprint of the reference's cache: the struct and its two rows. -/
def QF (Q : Nat) (Aa Aw : Option Addr) (k : Nat) : Prop := k = Q ∨ (∃ x, Aa = some x ∧ x.block = k) ∨ ∃ x, Aw = some x ∧ x.block = k
structure Qv (w : World) (base Q R : Nat) (Aa Aw : Option Addr) (room : Nat) (l : Ka) : Prop where
  bQ : base ≤ Q
  na : ∀ x, Aa = some x → x.block ≠ Q
  nw : ∀ x, Aw = some x → x.block ≠ Q
  aw : Apart Aa Aw
  ex : ∃ ca cw, w.heap[Q]? = some (.cells #[.pointer (some ⟨R, 0, none⟩), .int .i64 (room : Int), .slice Aa l.length ca, .slice Aw l.length cw] 37 (0, 0)) ∧ Ow w base 3 Aa ca (kvs l) ∧ Ow w base 9 Aw cw (wvs l)
section
variable {w w' : World} {base Q R room : Nat} {Aa Aw : Option Addr} {l : Ka}
theorem Qv.lt (h : Qv w base Q R Aa Aw room l) : ∀ k, QF Q Aa Aw k → base ≤ k ∧ k < w.heap.size := by
  obtain ⟨ca, cw, hQ, ha, hw⟩ := h.ex
  rintro k (rfl | ⟨x, hx, rfl⟩ | ⟨x, hx, rfl⟩)
  · exact ⟨h.bQ, lt_of_heap hQ⟩
  · exact ha.lt x hx
  · exact hw.lt x hx
theorem Qv.keep (h : Qv w base Q R Aa Aw room l) (hk : ∀ k, QF Q Aa Aw k → w'.heap[k]? = w.heap[k]?) : Qv w' base Q R Aa Aw room l := by
  obtain ⟨ca, cw, hQ, h1, h2⟩ := h.ex
  exact { h with ex := ⟨ca, cw, (hk Q (.inl rfl)).trans hQ, h1.keep fun x hx => hk _ (.inr (.inl ⟨x, hx, rfl⟩)), h2.keep fun x hx => hk _ (.inr (.inr ⟨x, hx, rfl⟩))⟩ }
theorem Qv.grow (h : Qv w base Q R Aa Aw room l) (hg : Grown w w') : Qv w' base Q R Aa Aw room l := h.keep fun k hk => hg.block k (h.lt k hk).2
theorem Qv.cells (h : Qv w base Q R Aa Aw room l) : ∃ ca cw, l.length ≤ ca ∧ l.length ≤ cw ∧ w.cell? ⟨Q, 0, none⟩ = some (.pointer (some ⟨R, 0, none⟩)) ∧ w.cell? ⟨Q, 1, none⟩ = some (.int .i64 (room : Int)) ∧ w.cell? ⟨Q, 2, none⟩ = some (.slice Aa l.length ca) ∧ w.cell? ⟨Q, 3, none⟩ = some (.slice Aw l.length cw) := by
  obtain ⟨ca, cw, hQ, h1, h2⟩ := h.ex
  have l1 := h1.le
  have l2 := h2.le
  rw [kvs_len] at l1
  rw [wvs_len] at l2
  exact ⟨ca, cw, l1, l2, cell_of_row w Q 0 _ _ (0, 0) hQ, cell_of_row w Q 1 _ _ (0, 0) hQ, cell_of_row w Q 2 _ _ (0, 0) hQ, cell_of_row w Q 3 _ _ (0, 0) hQ⟩
theorem Qv.frozen (h : Qv w base Q R Aa Aw room l) (j : Nat) : w.frozen? ⟨Q, j, none⟩ = false := by
  obtain ⟨ca, cw, hQ, _⟩ := h.ex
  exact frozen_of_row w Q j _ _ hQ
theorem Qv.atAt (h : Qv w base Q R Aa Aw room l) (i : Nat) (hi : i < l.length) : ∃ g, Aa = some ⟨g, 0, none⟩ ∧ g < w.heap.size ∧ w.cell? ⟨g, i, none⟩ = some (.int .i64 ((l[i].1 : Nat) : Int)) := by
  obtain ⟨ca, cw, hQ, h1, h2⟩ := h.ex
  obtain ⟨g, e, _, hg, hc, _⟩ := h1.at_ i (by rw [kvs_len]; exact hi)
  exact ⟨g, e, hg, by rw [hc]; simp [kvs, iv]⟩
theorem Qv.whatAt (h : Qv w base Q R Aa Aw room l) (i : Nat) (hi : i < l.length) : ∃ g, Aw = some ⟨g, 0, none⟩ ∧ g < w.heap.size ∧ w.cell? ⟨g, i, none⟩ = some (.string ⟨l[i].2.toArray⟩) := by
  obtain ⟨ca, cw, hQ, h1, h2⟩ := h.ex
  obtain ⟨g, e, _, hg, hc, _⟩ := h2.at_ i (by rw [wvs_len]; exact hi)
  exact ⟨g, e, hg, by rw [hc]; simp [wvs, sv]⟩
theorem offQ {A : Option Addr} {e : TypeId} {c : Nat} {vs : List Value} (hn : ∀ x, A = some x → x.block ≠ Q) (h : Ow w base e A c vs) (j : Nat) (u : Value) : Ow (w.setCell ⟨Q, j, none⟩ u) base e A c vs :=
  h.keep fun x hx => heap_setCell_other w ⟨Q, j, none⟩ x.block u (hn x hx)
/-- Both rows are others now. -/
theorem Qv.put2 {Aa' Aw' : Option Addr} {ca' cw' n : Nat} {l' : Ka} (h : Qv w base Q R Aa Aw room l) (hn : l'.length = n) (hQ' : w'.heap[Q]? = w.heap[Q]?) (hoA : Ow w' base 3 Aa' ca' (kvs l')) (hoW : Ow w' base 9 Aw' cw' (wvs l')) (hap : Apart Aa' Aw')
    (nA : ∀ x, Aa' = some x → x.block ≠ Q) (nW : ∀ x, Aw' = some x → x.block ≠ Q) : Qv ((w'.setCell ⟨Q, 2, none⟩ (.slice Aa' n ca')).setCell ⟨Q, 3, none⟩ (.slice Aw' n cw')) base Q R Aa' Aw' room l' := by
  subst hn
  obtain ⟨ca, cw, hQ, h1, h2⟩ := h.ex
  refine { bQ := h.bQ, na := nA, nw := nW, aw := hap, ex := ⟨ca', cw', ?_, offQ nA (offQ nA hoA 2 _) 3 _, offQ nW (offQ nW hoW 2 _) 3 _⟩ }
  rw [heap_setCell_same _ Q 3 _ _ _ (heap_setCell_same w' Q 2 _ _ _ (hQ'.trans hQ))]
  rfl
end
/-- The reference's cache has gone on. -/
def QOn (base Q R : Nat) (w : World) (F : Nat → Prop) (room : Nat) (l' : Ka) (w' : World) : Prop := ∃ Aa' Aw', Qv w' base Q R Aa' Aw' room l' ∧ (∀ k, QF Q Aa' Aw' k → F k ∨ w.heap.size ≤ k) ∧ Ch F w w'
theorem take_drop (l : Ka) (n : Int) (k : Nat) (hk : k < l.length) : kaDrop (l.take (k + 1)) n = kaDrop (l.take k) n ++ (if ((l[k].1 : Nat) : Int) = n then [] else [l[k]]) := by
  unfold kaDrop
  rw [List.take_add_one, List.getElem?_eq_getElem hk, List.filter_append]
  congr 1
  by_cases e : ((l[k].1 : Nat) : Int) = n <;> simp [e]
set_option maxRecDepth 20000 in
set_option maxHeartbeats 8000000 in
theorem qDrop {w : World} {base Q R room : Nat} {Aa Aw : Option Addr} {l : Ka} (h : Qv w base Q R Aa Aw room l) (hl : l.length ≤ 1000) (n : Int) :
    Calls Try.prog 16 #[.pointer (some ⟨Q, 0, none⟩), .int .i64 n] w fun e w' => e = .returned (.tuple #[]) ∧ QOn base Q R w (QF Q Aa Aw) room (kaDrop l n) w' := by
  have H := Lib.hid h
  obtain ⟨B2, hB2⟩ : ∃ B, B = w.heap.size := ⟨_, rfl⟩
  have HB2 := Lib.hid hB2
  have HLt := Lib.hid (show ∀ k, QF Q Aa Aw k → k < B2 from fun k hk => by rw [hB2]; exact (h.lt k hk).2)
  obtain ⟨m, hm⟩ : ∃ m, m = l.length := ⟨_, rfl⟩
  have HM := Lib.hid hm
  have hml : m ≤ 1000 := by rw [hm]; exact hl
  clear h hB2 hm hl
  obtain ⟨iI, hiI, hzI, hsI, hbI⟩ := info_parts infoI
  obtain ⟨iS, hiS, hzS, hsS, hbS⟩ := info_parts infoS
  go_enter Try.func16, Try.ntmps16
  go_wp2_with fail
  go_loopw [4, 5, 6] (fun v4 v5 v6 wr => ∃ (k nf : Nat) (La Lw : Option Addr) (ca cw : Nat), v4 = .slice La nf ca ∧ v5 = .slice Lw nf cw ∧ v6 = .int .i64 (k : Int) ∧ k ≤ m ∧ nf ≤ k ∧ Hid ((kaDrop (l.take k) n).length = nf) ∧ Hid (Ow wr B2 3 La ca (kvs (kaDrop (l.take k) n))) ∧ Hid (Ow wr B2 9 Lw cw (wvs (kaDrop (l.take k) n))) ∧ Hid (Apart La Lw) ∧ Hid (Below B2 w wr)) (fun _ _ v6 _ => m - (intOf v6).toNat)
  case atStart => exact ⟨0, 0, none, none, 0, 0, rfl, rfl, rfl, Nat.zero_le _, Nat.zero_le _, rfl, Ow.nil _ _ _, Ow.nil _ _ _, (fun x y hx => by cases hx), Below.refl _ _⟩
  case round =>
    obtain ⟨k, nf, La, Lw, ca, cw, rfl, rfl, rfl, hkm, hnf, HF, HA, HW, HAp, HBe⟩ := hrel
    have HZ := Lib.hid (H.out.keep (fun k hk => HBe.out.block k (HLt.out k hk)))
    obtain ⟨da, dw, l1, l2, q0, q1, q2, q3⟩ := HZ.out.cells
    have hc1 : wr.cell? ⟨Q, 2, none⟩ = some (.slice Aa m da) := by rw [q2, HM.out]
    have hc2 : wr.cell? ⟨Q, 3, none⟩ = some (.slice Aw m dw) := by rw [q3, HM.out]
    by_cases hlt : k < m
    · have bk : (k : Int) < (m : Int) := by omega
      have hkp : k < l.length := by have := HM.out; omega
      obtain ⟨pa, hpa⟩ : ∃ p, p = l[k].1 := ⟨_, rfl⟩
      obtain ⟨pw, hpw⟩ : ∃ p, p = l[k].2 := ⟨_, rfl⟩
      obtain ⟨ga, rfl, hga, hca⟩ := HZ.out.atAt k hkp
      obtain ⟨gw, rfl, hgw, hcw⟩ := HZ.out.whatAt k hkp
      have HFk := Lib.hid (take_drop l n k hkp)
      rw [show l[k] = (pa, pw) by rw [hpa, hpw]] at HFk
      rw [← hpa] at hca
      rw [← hpw] at hcw
      clear hpa hpw q0 q1 q2 q3 l1 l2
      by_cases hpt : (pa : Int) = n
      · have hbe : ((pa : Int) != n) = false := by simp [hpt]
        have HF2 := Lib.hid HFk.out
        clear HFk
        rw [if_pos hpt, List.append_nil] at HF2
        clear hpt
        go_wp2
        exact ⟨⟨k + 1, nf, La, Lw, ca, cw, by simp, by simp, by simp, by omega, by omega, by rw [HF2.out]; exact HF.out, by rw [HF2.out]; exact HA.out, by rw [HF2.out]; exact HW.out, HAp.out, HBe.out⟩, by simp [intOf]; omega⟩
      · have hbe : ((pa : Int) != n) = true := by rw [bne_iff_ne]; exact hpt
        have HF2 := Lib.hid HFk.out
        clear HFk
        rw [if_neg hpt] at HF2
        clear hpt
        have hz3 := HBe.out.size
        rw [← HB2.out] at hz3
        go_wp2_with (first
          | (at_builtin
             refine wpList_appOw (t := 34) rfl hiI hzI hsI hbI rfl (by decide) rfl (.tmp 25) (.tmp 33) rfl (n := nf) (by rw [kvs_len]; exact HF.out) rfl (owGrow HA.out (alloc_below wr _)) rfl (cellNew wr _ _) rfl (by omega) (by have := (alloc_below wr (.cells #[.int .i64 (pa : Int)] 3)).size; omega) ?_
             intro A8 c8 w8 ho8 hg8 hm8
             have O8 := Lib.hid ho8
             have W8 := Lib.hid (owBeside (owGrow HW.out (alloc_below wr (.cells #[.int .i64 (pa : Int)] 3))) HAp.out hg8)
             have P8 := Lib.hid (apMoved HAp.out hm8 (fun x hx => ((owGrow HW.out (alloc_below wr (.cells #[.int .i64 (pa : Int)] 3))).lt x hx).2))
             have E8 := Lib.hid (Below.grown (HBe.out.alloc (by omega) (.cells #[.int .i64 (pa : Int)] 3)) hg8 (by have := (alloc_below wr (.cells #[.int .i64 (pa : Int)] 3)).size; omega) (owBlk HA.out (by rw [kvs_len]; exact HF.out)))
             have d2 := (World.cell?_of_block (a := ⟨Q, 3, none⟩) ((E8.out.block Q (HLt.out Q (.inl rfl))).trans (HBe.out.block Q (HLt.out Q (.inl rfl))).symm)).trans hc2
             have d3 := (World.cell?_of_block (a := ⟨gw, k, none⟩) ((E8.out.block gw (HLt.out gw (.inr (.inr ⟨_, rfl, rfl⟩)))).trans (HBe.out.block gw (HLt.out gw (.inr (.inr ⟨_, rfl, rfl⟩)))).symm)).trans hcw
             clear ho8 hg8 hm8)
          | (at_builtin
             refine wpList_appOw (t := 35) rfl hiS hzS hsS hbS rfl (by decide) rfl (.tmp 35) (.tmp 43) rfl (n := nf) (by rw [wvs_len]; exact HF.out) rfl (owGrow W8.out (alloc_below w8 _)) rfl (cellNew w8 _ _) rfl (by omega) (by have := (alloc_below w8 (.cells #[.string ⟨pw.toArray⟩] 9)).size; have := E8.out.size; have := HB2.out; omega) ?_
             intro A9 c9 w9 ho9 hg9 hm9
             have O9 := Lib.hid ho9
             have V9 := Lib.hid (owBeside (owGrow O8.out (alloc_below w8 (.cells #[.string ⟨pw.toArray⟩] 9))) (apSymm P8.out) hg9)
             have P9 := Lib.hid (apSymm (apMoved (apSymm P8.out) hm9 (fun x hx => ((owGrow O8.out (alloc_below w8 (.cells #[.string ⟨pw.toArray⟩] 9))).lt x hx).2)))
             have E9 := Lib.hid (Below.grown (E8.out.alloc (by have := E8.out.size; have := HB2.out; omega) (.cells #[.string ⟨pw.toArray⟩] 9)) hg9 (by have := (alloc_below w8 (.cells #[.string ⟨pw.toArray⟩] 9)).size; have := E8.out.size; have := HB2.out; omega) (owBlk W8.out (by rw [wvs_len]; exact HF.out)))
             clear ho9 hg9 hm9))
        exact ⟨⟨k + 1, nf + 1, A8, A9, c8, c9, by simp, by simp, by simp, by omega, by omega, by rw [HF2.out, List.length_append, HF.out]; rfl, by rw [HF2.out]; unfold kvs; rw [List.map_append]; exact V9.out, by rw [HF2.out]; unfold wvs; rw [List.map_append]; exact O9.out, P9.out, E9.out⟩, by simp [intOf]; omega⟩
    · have bk : ¬ (k : Int) < (m : Int) := by omega
      obtain rfl : k = m := by omega
      have HFm := Lib.hid (show l.take k = l by rw [HM.out]; exact List.take_length)
      rw [HFm.out] at HF HA HW
      have hbB : base ≤ B2 := by have := HLt.out Q (.inl rfl); have := H.out.bQ; omega
      have hf1 := HZ.out.frozen 2
      have nA : ∀ x, La = some x → x.block ≠ Q := fun x hx e => by have := (HA.out.lt x hx).1; have := HLt.out Q (.inl rfl); omega
      have nW : ∀ x, Lw = some x → x.block ≠ Q := fun x hx e => by have := (HW.out.lt x hx).1; have := HLt.out Q (.inl rfl); omega
      have HZ2 := Lib.hid (H.out.put2 (w' := wr) (Aa' := La) (Aw' := Lw) (ca' := ca) (cw' := cw) (n := nf) HF.out (HBe.out.block Q (HLt.out Q (.inl rfl))) (owBase HA.out hbB) (owBase HW.out hbB) HAp.out nA nW)
      have hf2 : (wr.setCell ⟨Q, 2, none⟩ (.slice La nf ca)).frozen? ⟨Q, 3, none⟩ = false := by
        obtain ⟨_, _, hQ, _⟩ := HZ.out.ex
        exact frozen_of_row _ Q 3 _ _ (heap_setCell_same wr Q 2 _ _ _ hQ)
      have HC2 := Lib.hid (show Ch (QF Q Aa Aw) w wr from Ch.grown (HBe.out.mono (by rw [HB2.out]; exact Nat.le_refl _)))
      clear q0 q1 q2 q3 l1 l2 nA nW
      go_wp2
      refine bodyPost_end (results_none rfl _ _ _) rfl ⟨rfl, La, Lw, HZ2.out, ?_, ?_⟩
      · intro k hk
        rcases hk with hk | ⟨x, hx, rfl⟩ | ⟨x, hx, rfl⟩
        · exact .inl (.inl hk)
        · exact .inr (by have := (HA.out.lt x hx).1; have := HB2.out; omega)
        · exact .inr (by have := (HW.out.lt x hx).1; have := HB2.out; omega)
      · exact Ch.setCell (Ch.setCell HC2.out (p := ⟨Q, 2, none⟩) (.inl (.inl rfl)) _) (p := ⟨Q, 3, none⟩) (.inl (.inl rfl)) _
end Go.Proofs.Ythakdjaaknbmpaa.S14
namespace Go.Proofs.Ythakdjaaknbmpaa
open Go.RowKit
set_option linter.unusedVariables false

theorem restS_two {P : Program} {ops : Array Oper} {Q : Exit → Act → World → Prop} {S : World → Prop} {i j : Nat} {d d2 : Option Tmp} {op op2 : Op} {ty ty2 : TypeId} {pos pos2 : String} {after after2 : Array Edge} {guard guard2 : Option (Nat × Bool)} {fuel : Nat} {listed : Array Bool} {a : Act} {w : World}
    (hi : ops[i]? = some ⟨d, op, ty, pos, after, guard⟩) (hj : ops[j]? = some ⟨d2, op2, ty2, pos2, after2, guard2⟩) (hr : Region.ready .any ops listed = [i, j])
    (hwn : Region.wanted ⟨d, op, ty, pos, after, guard⟩ (yielded ops a.tmps) = true) (hwn2 : Region.wanted ⟨d2, op2, ty2, pos2, after2, guard2⟩ (yielded ops a.tmps) = true)
    (h : ∀ K : Act → World → Prop, Shut (∀ a' w', S w' → RestS P ops Q S fuel (listed.setIfInBounds i true) a' w' → K a' w') → Oper.wp P ⟨d, op, ty, pos, after, guard⟩ a w K (NoPanic Q))
    (h2 : ∀ K : Act → World → Prop, Shut (∀ a' w', S w' → RestS P ops Q S fuel (listed.setIfInBounds j true) a' w' → K a' w') → Oper.wp P ⟨d2, op2, ty2, pos2, after2, guard2⟩ a w K (NoPanic Q)) : RestS P ops Q S (fuel + 1) listed a w := by
  refine wpAnyH_all hr (by simp) fun k hk => ?_
  simp only [List.mem_cons, List.not_mem_nil, or_false] at hk
  rcases hk with rfl | rfl
  · unfold wpOp
    simp only [hi, hwn, if_true]
    exact .inl (h _ (fun a' w' hg hrest => ⟨hg, hrest⟩))
  · unfold wpOp
    simp only [hj, hwn2, if_true]
    exact .inl (h2 _ (fun a' w' hg hrest => ⟨hg, hrest⟩))
end Go.Proofs.Ythakdjaaknbmpaa
