/-
  Contracts of the program's device: Flush, Crash.
-/
import Derived.Test.YteigfpgdnfladaaDqP
namespace Go.Proofs.Yteigfpgdnfladaa.S13
open Cf
open Go.RowKit Go.Shelf
set_option linter.unusedVariables false
set_option linter.unusedSimpArgs false
theorem wsOf_attach (L : List Pw) : wsOf (L := L) L.attach = L.map (·.2) := by
  unfold wsOf
  show (L.attach.map ((fun p : Pw => p.2) ∘ fun x : In L => x.1)) = _
  rw [← List.map_map, List.attach_map_subtype_val]
theorem wsOf_sel (L : List Pw) (c : List Bool) : wsOf (L := L) (sel c L.attach) = sel c (L.map (·.2)) := by
  rw [← wsOf_attach]
  unfold wsOf
  rw [sel_map]
section
variable {w w' : World} {G Bd Bl : Nat} {Ap : Option Addr} {L : List Pw} {left : Int} {st : Dv} {i : Nat}
theorem Pz.rowB (h : Pz w G Bd Bl Ap L left st) {W : World} (hW : Below w.heap.size w W) (j : Nat) (hj : j < L.length) : ∃ b, Ap = some ⟨b, 0, none⟩ ∧ (∃ x, Ap = some x ∧ x.block = b) ∧ W.cell? ⟨b, j, none⟩ = some (pv L[j].1) := by
  obtain ⟨g, e, hl, _, _, _, hc, _⟩ := h.pr.rowAt j (by show j < (L.map (·.1)).length; rw [List.length_map]; exact hj)
  refine ⟨g, e, ⟨_, e, rfl⟩, ?_⟩
  rw [hW.cell (p := ⟨g, j, none⟩) hl, hc]
  simp
theorem Pz.pendCell (h : Pz w G Bd Bl Ap L left st) : ∃ cp, w.cell? ⟨G, 1, none⟩ = some (.slice Ap L.length cp) := by
  obtain ⟨cp, l1, c0, c1, c2, c3, c4⟩ := h.pr.cells
  exact ⟨cp, by rw [c1]; simp⟩
theorem Pz.len (h : Pz w G Bd Bl Ap L left st) : L.length = st.pend.length := by rw [← h.pend, List.length_map]
set_option maxHeartbeats 1000000 in
theorem flush_any (h : Pz w G Bd Bl Ap L left st) (hk : Ok st i) (hi : i ≤ 1000) (hl : st.kept.length ≤ 65536) :
    Calls Try.prog 15 #[.pointer (some ⟨G, 0, none⟩)] w fun e w' => e = .returned (.int .i64 (dvFlush st).1) ∧ DOn Dz w G (FF G Bd Bl Ap L) (dvFlush st).2 w' := by
  have HC := Lib.hid (call_any h)
  have HLn := Lib.hid (show L.length ≤ 1000 by have := hk.few; rw [h.len]; omega)
  clear h
  go_enter Try.func15, Try.ntmps15
  go_wp2_with fail
  refine HC.out.mono ?_
  rintro e w1 ⟨rfl, ⟨left', hz⟩, hc⟩
  have HZ := Lib.hid hz
  have HCh := Lib.hid hc
  clear hz hc HC
  cases hon : isOn st with
  | false =>
    rw [onErr_off hon]
    have HE := Lib.hid (show dvFlush st = (10, st) by unfold dvFlush; rw [hon]; rfl)
    have HT := Lib.hid (tickOff hon)
    clear hon
    go_wp2
    go_ret
    rw [HE.out]
    exact ⟨rfl, (HT.out ▸ HZ.out : Pz _ _ _ _ _ _ _ st).same HCh.out⟩
  | true =>
    rw [onErr_on hon]
    have HE := Lib.hid (show dvFlush st = (0, { tick st with kept := lay (tick st).kept (tick st).pend, pend := [] }) by unfold dvFlush; rw [hon, tick_kept, tick_pend]; rfl)
    have HKl := Lib.hid (show (tick st).kept.length ≤ 65536 by rw [tick_kept]; exact hl)
    clear hon
    obtain ⟨s, hs⟩ : ∃ s, s = tick st := ⟨_, rfl⟩
    rw [← hs] at HE HZ HKl
    clear hs hk hl
    obtain ⟨cp, hcp⟩ := HZ.out.pendCell
    obtain ⟨np, hnp⟩ : ∃ np, np = L.length := ⟨_, rfl⟩
    have HNp := Lib.hid hnp
    rw [← hnp] at hcp
    have HV := Lib.hid (values_any w1 Ap np cp)
    clear hnp
    go_wp2_with fail
    refine HV.out.mono ?_
    rintro e w2 ⟨rfl, hw2⟩
    have G2 := Lib.hid (show Grown w1 w2 by rw [hw2]; exact alloc_below w1 _)
    have C2 := Lib.hid (show w2.cell? ⟨w1.heap.size, 0, none⟩ = some (.slice Ap np cp) by rw [hw2]; exact cellNew w1 _ _)
    have S2 := Lib.hid (show w1.heap.size < w2.heap.size by rw [hw2, World.size_alloc]; omega)
    have Z2 := Lib.hid (HZ.out.grow G2.out)
    clear hw2 hcp HV
    have HSe := Lib.hid (settle_any Z2.out HLn.out HKl.out _ #[.pointer (some ⟨w1.heap.size, 0, none⟩)] (enters_of Try.func43 (by kernel_rfl) rfl) (fun k => ∃ x, Ap = some x ∧ x.block = k) (fun ⟨x, hx, e⟩ => Z2.out.pr.ad x hx e) (fun k ⟨x, hx, e⟩ => Z2.out.pr.lt k (.inr (.inr (.inr ⟨x, hx, e⟩)))) L.attach (by rw [List.length_attach]; exact HLn.out)
      (fun l J Jx W hW _ _ hY h0 => (values1_in 6 l w1.heap.size Ap L.length cp L rfl (by have := HLn.out; omega) (fun k => ∃ x, Ap = some x ∧ x.block = k) J Jx hY W ((hW.cell (p := ⟨w1.heap.size, 0, none⟩) S2.out).trans (by rw [C2.out, HNp.out])) (fun j hj => Z2.out.rowB hW j hj) h0).mono fun e w3 hr => ⟨hr.1, hr.2.imp (fun hh => ⟨_, rfl, hh⟩) (fun ⟨pre, hh⟩ => ⟨pre, trivial, hh⟩)⟩))
    rw [wsOf_attach, Z2.out.pend] at HSe
    go_wp2_with fail
    refine HSe.out.mono ?_
    rintro e w3 ⟨rfl, hz3, hc3⟩
    have Z3 := Lib.hid hz3
    have C3 := Lib.hid hc3
    clear hz3 hc3 HSe
    go_wp2
    go_ret
    rw [HE.out]
    refine ⟨rfl, Z3.out.on (fun k hk => ?_) (HCh.out.trans ((Ch.grown G2.out).trans C3.out))⟩
    rcases hk with (e | e | e | ⟨x, hx, _⟩) | ⟨p, hp, _⟩
    · exact .inl (.inl (.inl e))
    · exact .inl (.inl (.inr (.inl e)))
    · exact .inl (.inl (.inr (.inr (.inl e))))
    · cases hx
    · simp at hp
set_option maxHeartbeats 1000000 in
theorem crash_any (h : Pz w G Bd Bl Ap L left st) (hk : Ok st i) (hi : i ≤ 1000) (hl : st.kept.length ≤ 65536) (A : Option Addr) (m c : Nat) (keep : List Int) (hb : RdN w w.heap.size A keep) (hm : keep.length = m) (hm1 : m ≤ 1000) (hoff : ∀ x, A = some x → keep ≠ [] → ¬ FF G Bd Bl Ap L x.block) :
    Calls Try.prog 23 #[.pointer (some ⟨G, 0, none⟩), .slice A m c] w fun e w' => e = .returned (.int .i64 (dvCrash st keep).1) ∧ DOn Dz w G (FF G Bd Bl Ap L) (dvCrash st keep).2 w' := by
  have HLn := Lib.hid (show L.length ≤ 1000 by have := hk.few; rw [h.len]; omega)
  obtain ⟨cp0, l1, c0, c1, c2, c3, c4⟩ := h.pr.cells
  have hf := h.pr.frozen 4
  have q4 : w.cell? ⟨G, 4, none⟩ = some (.int .i64 left) := c4
  have HZ1 := Lib.hid (h.setLeft (-1) (-1) (by decide) (by omega) (by omega))
  have HCh := Lib.hid (Pz.chG (G := G) (Bd := Bd) (Bl := Bl) (Ap := Ap) (L := L) (w := w) 4 (.int .i64 (-1)))
  have HR := Lib.hid (show RdN (w.setCell ⟨G, 4, none⟩ (.int .i64 (-1))) (w.setCell ⟨G, 4, none⟩ (.int .i64 (-1))).heap.size A keep from by
    rcases hb with e | ⟨b, off, e1, e2, e3⟩
    · exact .inl e
    · by_cases h0 : keep = []
      · exact .inl h0
      · have hne : b ≠ G := fun e => hoff ⟨b, off, none⟩ e1 h0 (.inl (.inl e))
        exact .inr ⟨b, off, e1, by simpa using e2, fun j hj => (World.cell?_of_block (a := ⟨b, off + j, none⟩) (heap_setCell_other _ _ _ _ hne)).trans (e3 j hj)⟩)
  have HE := Lib.hid (show dvCrash st keep = (((pick keep 0 st.pend).length : Int), { ({ st with calls := -1 } : Dv) with kept := lay st.kept (pick keep 0 st.pend), pend := [] }) from rfl)
  clear h hk hb hoff c0 c1 c2 c3 c4 l1
  go_enter Try.func23, Try.ntmps23
  go_wp2_with fail
  clear q4 hf
  generalize w.setCell _ _ = w1 at HZ1 HCh HR ⊢
  have HCo := Lib.hid (chosen_any HZ1.out HLn.out A m c keep HR.out hm hm1)
  refine HCo.out.mono ?_
  rintro e w2 ⟨rfl, hg2, hb1, hb2, hb3⟩
  have G2 := Lib.hid hg2
  have B1 := Lib.hid hb1
  have B2 := Lib.hid hb2
  have B3 := Lib.hid hb3
  have Z2 := Lib.hid (HZ1.out.grow hg2)
  have S2 := Lib.hid (show w1.heap.size + 2 < w2.heap.size from World.block_lt_of_cell? w2 _ hb2)
  clear hg2 hb1 hb2 hb3 HCo HR
  obtain ⟨cp, hcp⟩ := Z2.out.pendCell
  have HCp := Lib.hid hcp
  clear hcp
  have HSe := Lib.hid (settle_any Z2.out HLn.out (by show st.kept.length ≤ 65536; exact hl) _ #[.pointer (some ⟨w1.heap.size, 0, none⟩), .pointer (some ⟨w1.heap.size + 2, 0, none⟩)] (enters_of Try.func44 (by kernel_rfl) rfl)
    (fun k => (∃ x, Ap = some x ∧ x.block = k) ∨ k = w1.heap.size + 2 ∨ k = w1.heap.size + 1)
    (fun hh => by
      have := HZ1.out.pr.lt Bd (.inr (.inl rfl))
      rcases hh with ⟨x, hx, e⟩ | e | e
      · exact Z2.out.pr.ad x hx e
      · omega
      · omega)
    (fun k hh => by
      rcases hh with ⟨x, hx, e⟩ | e | e
      · exact Z2.out.pr.lt k (.inr (.inr (.inr ⟨x, hx, e⟩)))
      · have := S2.out; omega
      · have := S2.out; omega)
    (sel (flags keep 0 L.length) L.attach)
    (by
      have h1 : (wsOf (L := L) (sel (flags keep 0 L.length) L.attach)).length = (sel (flags keep 0 L.length) L.attach).length := List.length_map _
      rw [← h1, wsOf_sel, Z2.out.pend]
      have h2 : (pick keep 0 st.pend) = sel (flags keep 0 st.pend.length) st.pend := pick_sel keep 0 st.pend
      have h3 : L.length = st.pend.length := HZ1.out.len
      rw [h3]
      show (sel (flags keep 0 st.pend.length) st.pend).length ≤ 1000
      rw [← h2]
      have h4 : ∀ (k : Nat) (l : List (Nat × List UInt8)), (pick keep k l).length ≤ l.length := by
        intro k l
        induction l generalizing k with
        | nil => simp [pick]
        | cons p l ih => have := ih (k + 1); unfold pick; split <;> simp <;> omega
      have := h4 0 st.pend
      have := HLn.out
      omega)
    (fun l J Jx W hW _ _ hY h0 => (chosen1_in 6 l w1.heap.size (w1.heap.size + 2) (w1.heap.size + 1) G Ap L.length cp L rfl (flags keep 0 L.length) (flags_len _ _ _) (by have := HLn.out; omega)
      (fun k => (∃ x, Ap = some x ∧ x.block = k) ∨ k = w1.heap.size + 2 ∨ k = w1.heap.size + 1) (.inr (.inl rfl)) (.inr (.inr rfl)) J Jx hY W
      ((hW.cell (p := ⟨w1.heap.size, 0, none⟩) (by have := S2.out; show w1.heap.size < _; omega)).trans B1.out)
      ((hW.cell (p := ⟨G, 1, none⟩) (Z2.out.pr.lt G (.inl rfl))).trans HCp.out)
      ((hW.cell (p := ⟨w1.heap.size + 2, 0, none⟩) S2.out).trans B2.out)
      (fun j b hb => (hW.cell (p := ⟨w1.heap.size + 1, j, none⟩) (by have := S2.out; show w1.heap.size + 1 < _; omega)).trans (by
        rw [cell_of_row _ _ j _ _ (0, 0) B3.out, boolRow_flags, List.getElem?_toArray, List.getElem?_map, hb]; rfl))
      (fun j hj => by
        obtain ⟨b, e1, e2, e3⟩ := Z2.out.rowB hW j hj
        exact ⟨b, e1, .inl e2, e3⟩)
      h0).mono fun e w3 hr => ⟨hr.1, hr.2.imp (fun hh => ⟨_, rfl, hh⟩) (fun ⟨pre, hh⟩ => ⟨pre, trivial, hh⟩)⟩))
  have hws : wsOf (L := L) (sel (flags keep 0 L.length) L.attach) = pick keep 0 st.pend := by
    rw [wsOf_sel, Z2.out.pend, pick_sel, HZ1.out.len]
  have hwl : (sel (flags keep 0 L.length) L.attach).length = (pick keep 0 st.pend).length := by rw [← hws]; exact (List.length_map _).symm
  rw [hws, hwl] at HSe
  clear hws hwl
  go_wp2_with fail
  refine HSe.out.mono ?_
  rintro e w3 ⟨rfl, hz3, hc3⟩
  have Z3 := Lib.hid hz3
  have C3 := Lib.hid hc3
  clear hz3 hc3 HSe
  go_wp2
  go_ret
  rw [HE.out]
  refine ⟨rfl, Z3.out.on (fun k hk => ?_) (HCh.out.trans ((Ch.grown G2.out).trans C3.out))⟩
  rcases hk with (e | e | e | ⟨x, hx, _⟩) | ⟨p, hp, _⟩
  · exact .inl (.inl (.inl e))
  · exact .inl (.inl (.inr (.inl e)))
  · exact .inl (.inl (.inr (.inr (.inl e))))
  · cases hx
  · simp at hp
end
end Go.Proofs.Yteigfpgdnfladaa.S13
