/-
  Contracts of the program's device: Flush, Crash. Contract of the program's device: Tamper.
-/
import Derived.Test.YthakdjaaknbmpaaMgKactsMain33
namespace Go.Proofs.Ythakdjaaknbmpaa.S13
open Cf
open Go.RowKit Go.Shelf
set_option linter.unusedVariables false
set_option linter.unusedSimpArgs false
theorem wsOf_attach (L : List Pw) : wsOf (L := L) L.attach = L.map (·.2) := by
  unfold wsOf
  show (L.attach.map ((fun p : Pw => p.2) ∘ fun x : In L => x.1)) = _
  rw [← List.map_map, List.attach_map_subtype_val]
theorem wsOf_sel (L : List Pw) (c : List Bool) : wsOf (L := L) (sel c L.attach) = sel c (L.map (·.2)) := by
  rw [← wsOf_attach]
  unfold wsOf
  rw [sel_map]
section
variable {w w' : World} {G Bd Bl : Nat} {Ap : Option Addr} {L : List Pw} {left : Int} {st : Dv} {i : Nat}
theorem Pz.rowB (h : Pz w G Bd Bl Ap L left st) {W : World} (hW : Below w.heap.size w W) (j : Nat) (hj : j < L.length) : ∃ b, Ap = some ⟨b, 0, none⟩ ∧ (∃ x, Ap = some x ∧ x.block = b) ∧ W.cell? ⟨b, j, none⟩ = some (pv L[j].1) := by
  obtain ⟨g, e, hl, _, _, _, hc, _⟩ := h.pr.rowAt j (by show j < (L.map (·.1)).length; rw [List.length_map]; exact hj)
  refine ⟨g, e, ⟨_, e, rfl⟩, ?_⟩
  rw [hW.cell (p := ⟨g, j, none⟩) hl, hc]
  simp
theorem Pz.pendCell (h : Pz w G Bd Bl Ap L left st) : ∃ cp, w.cell? ⟨G, 1, none⟩ = some (.slice Ap L.length cp) := by
  obtain ⟨cp, l1, c0, c1, c2, c3, c4⟩ := h.pr.cells
  exact ⟨cp, by rw [c1]; simp⟩
theorem Pz.len (h : Pz w G Bd Bl Ap L left st) : L.length = st.pend.length := by rw [← h.pend, List.length_map]
set_option maxRecDepth 20000 in
set_option maxHeartbeats 1000000 in
theorem flush_any (h : Pz w G Bd Bl Ap L left st) (hk : Ok st i) (hi : i ≤ 1000) (hl : st.kept.length ≤ 65536) :
    Calls Try.prog 18 #[.pointer (some ⟨G, 0, none⟩)] w fun e w' => e = .returned (.int .i64 (dvFlush st).1) ∧ DOn Dz w G (FF G Bd Bl Ap L) (dvFlush st).2 w' := by
  have HC := Lib.hid (call_any h)
  have HLn := Lib.hid (show L.length ≤ 1000 by have := hk.few; rw [h.len]; omega)
  clear h
  go_enter Try.func18, Try.ntmps18
  go_wp2_with fail
  refine HC.out.mono ?_
  rintro e w1 ⟨rfl, ⟨left', hz⟩, hc⟩
  have HZ := Lib.hid hz
  have HCh := Lib.hid hc
  clear hz hc HC
  cases hon : isOn st with
  | false =>
    rw [onErr_off hon]
    have HE := Lib.hid (show dvFlush st = (10, st) by unfold dvFlush; rw [hon]; rfl)
    have HT := Lib.hid (tickOff hon)
    clear hon
    go_wp2
    go_ret
    rw [HE.out]
    exact ⟨rfl, (HT.out ▸ HZ.out : Pz _ _ _ _ _ _ _ st).same HCh.out⟩
  | true =>
    rw [onErr_on hon]
    have HE := Lib.hid (show dvFlush st = (0, { tick st with kept := lay (tick st).kept (tick st).pend, pend := [] }) by unfold dvFlush; rw [hon, tick_kept, tick_pend]; rfl)
    have HKl := Lib.hid (show (tick st).kept.length ≤ 65536 by rw [tick_kept]; exact hl)
    clear hon
    obtain ⟨s, hs⟩ : ∃ s, s = tick st := ⟨_, rfl⟩
    rw [← hs] at HE HZ HKl
    clear hs hk hl
    obtain ⟨cp, hcp⟩ := HZ.out.pendCell
    obtain ⟨np, hnp⟩ : ∃ np, np = L.length := ⟨_, rfl⟩
    have HNp := Lib.hid hnp
    rw [← hnp] at hcp
    have HV := Lib.hid (values_any w1 Ap np cp)
    clear hnp
    go_wp2_with fail
    refine HV.out.mono ?_
    rintro e w2 ⟨rfl, hw2⟩
    have G2 := Lib.hid (show Grown w1 w2 by rw [hw2]; exact alloc_below w1 _)
    have C2 := Lib.hid (show w2.cell? ⟨w1.heap.size, 0, none⟩ = some (.slice Ap np cp) by rw [hw2]; exact cellNew w1 _ _)
    have S2 := Lib.hid (show w1.heap.size < w2.heap.size by rw [hw2, World.size_alloc]; omega)
    have Z2 := Lib.hid (HZ.out.grow G2.out)
    clear hw2 hcp HV
    have HSe := Lib.hid (settle_any Z2.out HLn.out HKl.out _ #[.pointer (some ⟨w1.heap.size, 0, none⟩)] (enters_of Try.func57 (by kernel_rfl) rfl) (fun k => ∃ x, Ap = some x ∧ x.block = k) (fun ⟨x, hx, e⟩ => Z2.out.pr.ad x hx e) (fun k ⟨x, hx, e⟩ => Z2.out.pr.lt k (.inr (.inr (.inr ⟨x, hx, e⟩)))) L.attach (by rw [List.length_attach]; exact HLn.out)
      (fun l J Jx W hW _ _ hY h0 => (values1_in 6 l w1.heap.size Ap L.length cp L rfl (by have := HLn.out; omega) (fun k => ∃ x, Ap = some x ∧ x.block = k) J Jx hY W ((hW.cell (p := ⟨w1.heap.size, 0, none⟩) S2.out).trans (by rw [C2.out, HNp.out])) (fun j hj => Z2.out.rowB hW j hj) h0).mono fun e w3 hr => ⟨hr.1, hr.2.imp (fun hh => ⟨_, rfl, hh⟩) (fun ⟨pre, hh⟩ => ⟨pre, trivial, hh⟩)⟩))
    rw [wsOf_attach, Z2.out.pend] at HSe
    go_wp2_with fail
    refine HSe.out.mono ?_
    rintro e w3 ⟨rfl, hz3, hc3⟩
    have Z3 := Lib.hid hz3
    have C3 := Lib.hid hc3
    clear hz3 hc3 HSe
    go_wp2
    go_ret
    rw [HE.out]
    refine ⟨rfl, Z3.out.on (fun k hk => ?_) (HCh.out.trans ((Ch.grown G2.out).trans C3.out))⟩
    rcases hk with (e | e | e | ⟨x, hx, _⟩) | ⟨p, hp, _⟩
    · exact .inl (.inl (.inl e))
    · exact .inl (.inl (.inr (.inl e)))
    · exact .inl (.inl (.inr (.inr (.inl e))))
    · cases hx
    · simp at hp
set_option maxRecDepth 20000 in
set_option maxHeartbeats 1000000 in
theorem crash_any (h : Pz w G Bd Bl Ap L left st) (hk : Ok st i) (hi : i ≤ 1000) (hl : st.kept.length ≤ 65536) (A : Option Addr) (m c : Nat) (keep : List Int) (hb : RdN w w.heap.size A keep) (hm : keep.length = m) (hm1 : m ≤ 1000) (hoff : ∀ x, A = some x → keep ≠ [] → ¬ FF G Bd Bl Ap L x.block) :
    Calls Try.prog 22 #[.pointer (some ⟨G, 0, none⟩), .slice A m c] w fun e w' => e = .returned (.int .i64 (dvCrash st keep).1) ∧ DOn Dz w G (FF G Bd Bl Ap L) (dvCrash st keep).2 w' := by
  have HLn := Lib.hid (show L.length ≤ 1000 by have := hk.few; rw [h.len]; omega)
  obtain ⟨cp0, l1, c0, c1, c2, c3, c4⟩ := h.pr.cells
  have hf := h.pr.frozen 4
  have q4 : w.cell? ⟨G, 4, none⟩ = some (.int .i64 left) := c4
  have HZ1 := Lib.hid (h.setLeft (-1) (-1) (by decide) (by omega) (by omega))
  have HCh := Lib.hid (Pz.chG (G := G) (Bd := Bd) (Bl := Bl) (Ap := Ap) (L := L) (w := w) 4 (.int .i64 (-1)))
  have HR := Lib.hid (show RdN (w.setCell ⟨G, 4, none⟩ (.int .i64 (-1))) (w.setCell ⟨G, 4, none⟩ (.int .i64 (-1))).heap.size A keep from by
    rcases hb with e | ⟨b, off, e1, e2, e3⟩
    · exact .inl e
    · by_cases h0 : keep = []
      · exact .inl h0
      · have hne : b ≠ G := fun e => hoff ⟨b, off, none⟩ e1 h0 (.inl (.inl e))
        exact .inr ⟨b, off, e1, by simpa using e2, fun j hj => (World.cell?_of_block (a := ⟨b, off + j, none⟩) (heap_setCell_other _ _ _ _ hne)).trans (e3 j hj)⟩)
  have HE := Lib.hid (show dvCrash st keep = (((pick keep 0 st.pend).length : Int), { ({ st with calls := -1 } : Dv) with kept := lay st.kept (pick keep 0 st.pend), pend := [] }) from rfl)
  clear h hk hb hoff c0 c1 c2 c3 c4 l1
  go_enter Try.func22, Try.ntmps22
  go_wp2_with fail
  clear q4 hf
  generalize w.setCell _ _ = w1 at HZ1 HCh HR ⊢
  have HCo := Lib.hid (chosen_any HZ1.out HLn.out A m c keep HR.out hm hm1)
  refine HCo.out.mono ?_
  rintro e w2 ⟨rfl, hg2, hb1, hb2, hb3⟩
  have G2 := Lib.hid hg2
  have B1 := Lib.hid hb1
  have B2 := Lib.hid hb2
  have B3 := Lib.hid hb3
  have Z2 := Lib.hid (HZ1.out.grow hg2)
  have S2 := Lib.hid (show w1.heap.size + 2 < w2.heap.size from World.block_lt_of_cell? w2 _ hb2)
  clear hg2 hb1 hb2 hb3 HCo HR
  obtain ⟨cp, hcp⟩ := Z2.out.pendCell
  have HCp := Lib.hid hcp
  clear hcp
  have HSe := Lib.hid (settle_any Z2.out HLn.out (by show st.kept.length ≤ 65536; exact hl) _ #[.pointer (some ⟨w1.heap.size, 0, none⟩), .pointer (some ⟨w1.heap.size + 2, 0, none⟩)] (enters_of Try.func58 (by kernel_rfl) rfl)
    (fun k => (∃ x, Ap = some x ∧ x.block = k) ∨ k = w1.heap.size + 2 ∨ k = w1.heap.size + 1)
    (fun hh => by
      have := HZ1.out.pr.lt Bd (.inr (.inl rfl))
      rcases hh with ⟨x, hx, e⟩ | e | e
      · exact Z2.out.pr.ad x hx e
      · omega
      · omega)
    (fun k hh => by
      rcases hh with ⟨x, hx, e⟩ | e | e
      · exact Z2.out.pr.lt k (.inr (.inr (.inr ⟨x, hx, e⟩)))
      · have := S2.out; omega
      · have := S2.out; omega)
    (sel (flags keep 0 L.length) L.attach)
    (by
      have h1 : (wsOf (L := L) (sel (flags keep 0 L.length) L.attach)).length = (sel (flags keep 0 L.length) L.attach).length := List.length_map _
      rw [← h1, wsOf_sel, Z2.out.pend]
      have h2 : (pick keep 0 st.pend) = sel (flags keep 0 st.pend.length) st.pend := pick_sel keep 0 st.pend
      have h3 : L.length = st.pend.length := HZ1.out.len
      rw [h3]
      show (sel (flags keep 0 st.pend.length) st.pend).length ≤ 1000
      rw [← h2]
      have h4 : ∀ (k : Nat) (l : List (Nat × List UInt8)), (pick keep k l).length ≤ l.length := by
        intro k l
        induction l generalizing k with
        | nil => simp [pick]
        | cons p l ih => have := ih (k + 1); unfold pick; split <;> simp <;> omega
      have := h4 0 st.pend
      have := HLn.out
      omega)
    (fun l J Jx W hW _ _ hY h0 => (chosen1_in 6 l w1.heap.size (w1.heap.size + 2) (w1.heap.size + 1) G Ap L.length cp L rfl (flags keep 0 L.length) (flags_len _ _ _) (by have := HLn.out; omega)
      (fun k => (∃ x, Ap = some x ∧ x.block = k) ∨ k = w1.heap.size + 2 ∨ k = w1.heap.size + 1) (.inr (.inl rfl)) (.inr (.inr rfl)) J Jx hY W
      ((hW.cell (p := ⟨w1.heap.size, 0, none⟩) (by have := S2.out; show w1.heap.size < _; omega)).trans B1.out)
      ((hW.cell (p := ⟨G, 1, none⟩) (Z2.out.pr.lt G (.inl rfl))).trans HCp.out)
      ((hW.cell (p := ⟨w1.heap.size + 2, 0, none⟩) S2.out).trans B2.out)
      (fun j b hb => (hW.cell (p := ⟨w1.heap.size + 1, j, none⟩) (by have := S2.out; show w1.heap.size + 1 < _; omega)).trans (by
        rw [cell_of_row _ _ j _ _ (0, 0) B3.out, boolRow_flags, List.getElem?_toArray, List.getElem?_map, hb]; rfl))
      (fun j hj => by
        obtain ⟨b, e1, e2, e3⟩ := Z2.out.rowB hW j hj
        exact ⟨b, e1, .inl e2, e3⟩)
      h0).mono fun e w3 hr => ⟨hr.1, hr.2.imp (fun hh => ⟨_, rfl, hh⟩) (fun ⟨pre, hh⟩ => ⟨pre, trivial, hh⟩)⟩))
  have hws : wsOf (L := L) (sel (flags keep 0 L.length) L.attach) = pick keep 0 st.pend := by
    rw [wsOf_sel, Z2.out.pend, pick_sel, HZ1.out.len]
  have hwl : (sel (flags keep 0 L.length) L.attach).length = (pick keep 0 st.pend).length := by rw [← hws]; exact (List.length_map _).symm
  rw [hws, hwl] at HSe
  clear hws hwl
  go_wp2_with fail
  refine HSe.out.mono ?_
  rintro e w3 ⟨rfl, hz3, hc3⟩
  have Z3 := Lib.hid hz3
  have C3 := Lib.hid hc3
  clear hz3 hc3 HSe
  go_wp2
  go_ret
  rw [HE.out]
  refine ⟨rfl, Z3.out.on (fun k hk => ?_) (HCh.out.trans ((Ch.grown G2.out).trans C3.out))⟩
  rcases hk with (e | e | e | ⟨x, hx, _⟩) | ⟨p, hp, _⟩
  · exact .inl (.inl (.inl e))
  · exact .inl (.inl (.inr (.inl e)))
  · exact .inl (.inl (.inr (.inr (.inl e))))
  · cases hx
  · simp at hp
end
end Go.Proofs.Ythakdjaaknbmpaa.S13
namespace Go.Proofs.Ythakdjaaknbmpaa.S13
open Cf
open Go.RowKit
set_option linter.unusedVariables false
set_option linter.unusedSimpArgs false
section
variable {w w' : World} {G Bd Bl : Nat} {Ap : Option Addr} {L : List Pw} {left : Int} {st : Dv} {i : Nat}
theorem Pz.df (h : Pz w G Bd Bl Ap L left st) {a Ba : Nat} (hb : w.cell? ⟨Ba, 0, none⟩ = some (.int .i64 (a : Int))) (hB : ∀ x, Ap = some x → x.block ≠ Ba) : ∃ cap, w.cell? ⟨G, 1, none⟩ = some (.slice Ap L.length cap) ∧ Df w Ap cap L a Ba ∧ L.length ≤ cap ∧ cap ≤ 9223372036854775807 := by
  obtain ⟨cp, hG, hp⟩ := h.pr.ex
  have hp2 : Ow w 0 82 Ap cp (L.map fun p => pv p.1) := by
    have := hp
    rw [List.map_map] at this
    exact this
  refine ⟨cp, ?_, { row := hp2, wr := h.wr, box := hb, ab := hB, aw := fun x hx p hpm e => h.ap p hpm (.inr (.inr (.inr ⟨x, hx, e.symm⟩))) }, ?_, ?_⟩
  · have := cell_of_row w G 1 _ _ (0, 0) hG
    rw [this]; simp [PzC]
  · have := hp2.le; rwa [List.length_map] at this
  · rcases hp2.form with ⟨_, _, e⟩ | ⟨_, _, _, _, _, _, e, _⟩
    · omega
    · unfold maxLen at e; omega
set_option maxRecDepth 20000 in
set_option maxHeartbeats 4000000 in
theorem tamper_any (h : Pz w G Bd Bl Ap L left st) (hk : Ok st i) (hi : i ≤ 1000) (n : Int) (A : Option Addr) (m c : Nat) (b : List UInt8) (hb : Rd w w.heap.size A b) (hm : b.length = m) (hm1 : m ≤ 1000) (hoff : ∀ x, A = some x → b ≠ [] → ¬ FF G Bd Bl Ap L x.block) :
    Calls Try.prog 24 #[.pointer (some ⟨G, 0, none⟩), .int .i64 n, .slice A m c] w fun e w' => e = .returned (.int .i64 (dvTamper st n b).1) ∧ DOn Dz w G (FF G Bd Bl Ap L) (dvTamper st n b).2 w' := by
  have G1 := Lib.hid (alloc_below w (.cells #[.int .i64 n] 3))
  have C1 := Lib.hid (cellNew w (.int .i64 n) 3)
  have H1 := Lib.hid (h.grow G1.out)
  have hcn := C1.out
  by_cases hin : 0 ≤ n ∧ n < (st.kept.length : Int)
  · have HH := Lib.hid (takes_in H1.out n hin.1 hin.2 A m c)
    by_cases h5 : m ≤ 512
    · rw [decide_eq_true h5] at HH
      have HLn := Lib.hid (show L.length ≤ 1000 by have := hk.few; rw [h.len]; omega)
      have HW0 := Lib.hid h
      have HB := Lib.hid hb
      have HM := Lib.hid hm
      have HOff := Lib.hid hoff
      obtain ⟨k, rfl⟩ : ∃ k : Nat, n = (k : Int) := ⟨n.toNat, by omega⟩
      have HE := Lib.hid (show dvTamper st (k : Int) b = (0, { st with kept := st.kept.set k (pad512 b), pend := st.pend.filter fun p => decide (p.1 ≠ k) }) by unfold dvTamper; rw [if_neg (fun hh => hh.elim (fun h1 => h1 hin) (fun h1 => by omega))]; rfl)
      have HKl := Lib.hid (show k < st.kept.length by omega)
      clear h hin hb hm hoff hk
      go_enter Try.func24, Try.ntmps24
      go_wp2_with fail
      clear hcn
      generalize w.alloc _ = w1 at G1 C1 H1 HH ⊢
      refine HH.out.mono ?_
      rintro e w1' ⟨rfl, rfl⟩
      clear HH
      obtain ⟨cap, hcap, hdf, hle, hle2⟩ := H1.out.df C1.out (fun x hx e => by have := HW0.out.pr.lt _ (.inr (.inr (.inr ⟨x, hx, e⟩))); omega)
      obtain ⟨np, hnp⟩ : ∃ np, np = L.length := ⟨_, rfl⟩
      rw [← hnp] at hcap hle
      have HNp := Lib.hid hnp
      have HDel := Lib.hid (delete_any w1' Ap cap np L k w.heap.size hdf hnp.symm (by have := HLn.out; omega) hle hle2)
      clear hdf hnp hle hle2
      go_wp2_with fail
      clear hcap
      refine HDel.out.mono ?_
      rintro e w2 ⟨rfl, ho2, hg2⟩
      have B2 := Lib.hid hg2
      have O2 := Lib.hid ho2
      clear HDel ho2
      obtain ⟨nk, hnk⟩ : ∃ nk, nk = st.kept.length := ⟨_, rfl⟩
      have HNk := Lib.hid hnk
      clear hnk
      obtain ⟨q, hq⟩ : ∃ q, q = (keepW k L).length := ⟨_, rfl⟩
      have HQ := Lib.hid hq
      rw [← hq]
      have hown : ∀ k', (∀ x, Ap = some x → x.block ≠ k') → k' < w1'.heap.size → w2.heap[k']? = w1'.heap[k']? := fun k' hx hlt => hg2.block k' hlt (fun e => by obtain ⟨x, hx1, hxk⟩ := own_blk e; exact hx x hx1 hxk)
      have hAs : ∀ x, Ap = some x → x.block < w.heap.size := fun x hx => HW0.out.pr.lt _ (.inr (.inr (.inr ⟨x, hx, rfl⟩)))
      have hws : w.heap.size < w1'.heap.size := World.block_lt_of_cell? w1' _ C1.out
      have hGl := HW0.out.pr.lt G (.inl rfl)
      have hBdl := HW0.out.pr.lt Bd (.inr (.inl rfl))
      have hBll := HW0.out.pr.lt Bl (.inr (.inr (.inl rfl)))
      have hG2 := hown G (H1.out.pr.ag) (by omega)
      obtain ⟨cp, -, -, z1, -, -, -⟩ := H1.out.pr.cells
      have y1 := (World.cell?_of_block (a := ⟨G, 1, none⟩) hG2).trans z1
      have y2 := (World.frozen?_of_block (a := ⟨G, 1, none⟩) hG2).trans (H1.out.pr.frozen 1)
      have X3 := Lib.hid (Pr.putRow (w' := w2) (np := q) (row' := (keepW k L).map (·.1)) (cp' := cap) (Ap' := Ap) H1.out.pr (by rw [List.length_map, hq]) (fun k' hk' hx => hown k' hx (H1.out.pr.lt k' hk')) (by rw [List.map_map]; exact O2.out) (fun x hx => .inl hx))
      have W3 := Lib.hid (show Wr (w2.setCell ⟨G, 1, none⟩ (.slice Ap q cap)) L from (H1.out.wr.keep fun p hp => hown p.1 (fun x hx e => H1.out.ap p hp (.inr (.inr (.inr ⟨x, hx, e⟩)))) (H1.out.wr.lt p hp)).keep fun p hp => heap_setCell_other _ _ _ _ (fun e => H1.out.ap p hp (.inl e)))
      have E3 := Lib.hid (show (w2.setCell ⟨G, 1, none⟩ (.slice Ap q cap)).cell? ⟨w.heap.size, 0, none⟩ = some (.int .i64 (k : Int)) from (World.cell?_of_block (a := ⟨w.heap.size, 0, none⟩) ((heap_setCell_other _ _ _ _ (by show w.heap.size ≠ G; omega)).trans (hown w.heap.size (fun x hx => by have := hAs x hx; omega) hws))).trans C1.out)
      have D3 := Lib.hid (show Ch (FF G Bd Bl Ap L) w (w2.setCell ⟨G, 1, none⟩ (.slice Ap q cap)) from Ch.setCell (chGrownBy (Ch.grown G1.out) hg2 (fun k' e => by obtain ⟨x, hx, hxk⟩ := own_blk e.symm; exact .inl (.inl (.inr (.inr (.inr ⟨x, hx, hxk⟩)))))) (p := ⟨G, 1, none⟩) (.inl (.inl (.inl rfl))) _)
      clear hg2 hq z1 hG2 hown
      go_wp2_with fail
      clear y1 y2
      generalize w2.setCell _ _ = w3 at X3 W3 E3 D3 ⊢
      have bk : (k : Int) < (nk : Int) := by have := HNk.out; have := HKl.out; omega
      refine restS_begin (fun v : World => v.cell? ⟨G, 2, none⟩ = some (.slice (some ⟨Bl, 0, none⟩) nk nk) ∧ v.cell? ⟨w.heap.size, 0, none⟩ = some (.int .i64 (k : Int))) (by kernel_rfl) ?_
      replace X3 := Lib.hid (X3.out.keep (w' := w3.drew) (fun _ _ => rfl))
      replace W3 := Lib.hid (show Wr w3.drew L from W3.out)
      replace E3 := Lib.hid (show w3.drew.cell? ⟨w.heap.size, 0, none⟩ = some (.int .i64 (k : Int)) from E3.out)
      replace D3 := Lib.hid D3.out.drew
      generalize w3.drew = wd at X3 W3 E3 D3 ⊢
      have hkk := HKl.out
      have hnkk := HNk.out
      obtain ⟨cq, -, z0, -, z2, -, -⟩ := X3.out.cells
      rw [show (Ps.mk st.kept ((keepW k L).map (·.1)) (latRow st.kept.length L) st.count left).kept.length = nk from hnkk.symm] at z0 z2
      obtain ⟨hl4, hf4⟩ := X3.out.latAt k hkk _ (latRow_at _ L k hkk)
      have nGl := HW0.out.pr.gl
      have nDl := HW0.out.pr.dl
      have nGd := HW0.out.pr.gd
      have X4 := Lib.hid (show Pr (wd.setCell ⟨Bl, k, none⟩ (.pointer none)) G Bd Bl Ap ⟨st.kept, (keepW k L).map (·.1), latRow st.kept.length (keepW k L), st.count, left⟩ by
        have := X3.out.setLat k none
        rw [latRow_keep]
        exact this)
      have W4 := Lib.hid (show Wr (wd.setCell ⟨Bl, k, none⟩ (.pointer none)) L from W3.out.keep fun p hp => heap_setCell_other _ _ _ _ (fun e => HW0.out.ap p hp (.inr (.inr (.inl e)))))
      have E4 := Lib.hid (show (wd.setCell ⟨Bl, k, none⟩ (.pointer none)).cell? ⟨w.heap.size, 0, none⟩ = some (.int .i64 (k : Int)) from (World.cell?_of_block (a := ⟨w.heap.size, 0, none⟩) (heap_setCell_other _ _ _ _ (by show w.heap.size ≠ Bl; omega))).trans E3.out)
      have D4 := Lib.hid (show Ch (FF G Bd Bl Ap L) w (wd.setCell ⟨Bl, k, none⟩ (.pointer none)) from Ch.setCell D3.out (p := ⟨Bl, k, none⟩) (.inl (.inl (.inr (.inr (.inl rfl))))) _)
      have SV := Lib.hid (show wd.cell? ⟨G, 2, none⟩ = some (.slice (some ⟨Bl, 0, none⟩) nk nk) ∧ wd.cell? ⟨w.heap.size, 0, none⟩ = some (.int .i64 (k : Int)) from ⟨z2, E3.out⟩)
      have SX := Lib.hid (show (wd.setCell ⟨Bl, k, none⟩ (.pointer none)).cell? ⟨G, 2, none⟩ = some (.slice (some ⟨Bl, 0, none⟩) nk nk) ∧ (wd.setCell ⟨Bl, k, none⟩ (.pointer none)).cell? ⟨w.heap.size, 0, none⟩ = some (.int .i64 (k : Int)) from ⟨(World.cell?_of_block (a := ⟨G, 2, none⟩) (heap_setCell_other _ _ _ _ nGl)).trans z2, E4.out⟩)
      have hl4' : (wd).cell? ⟨Bl, k, none⟩ = some (ov (lastB none L k)) := hl4
      have hf4' : (wd).frozen? ⟨Bl, k, none⟩ = false := hf4
      clear z0 z2 hl4 hf4 hkk hnkk X3 W3 E3 D3
      refine restS_take (i := 0) SV.out rfl (by kernel_rfl) (by kernel_rfl) (by kernel_rfl) (by rfl) (fun v hv => by obtain ⟨v1, v2⟩ := hv; go_simp; try with_reducible rfl) ?_
      try simp only [Act.put, List.setIfInBounds_toArray, List.set_cons_zero, List.set_cons_succ]
      refine restS_take (i := 1) SV.out rfl (by kernel_rfl) (by kernel_rfl) (by kernel_rfl) (by rfl) (fun v hv => by obtain ⟨v1, v2⟩ := hv; go_simp; try with_reducible rfl) ?_
      try simp only [Act.put, List.setIfInBounds_toArray, List.set_cons_zero, List.set_cons_succ]
      refine restS_take (i := 2) SV.out rfl (by kernel_rfl) (by kernel_rfl) (by kernel_rfl) (by rfl) (fun v hv => by obtain ⟨v1, v2⟩ := hv; go_simp; try with_reducible rfl) ?_
      try simp only [Act.put, List.setIfInBounds_toArray, List.set_cons_zero, List.set_cons_succ]
      refine restS_take (i := 3) SV.out rfl (by kernel_rfl) (by kernel_rfl) (by kernel_rfl) (by rfl) (fun v hv => by obtain ⟨v1, v2⟩ := hv; go_simp; try with_reducible rfl) ?_
      try simp only [Act.put, List.setIfInBounds_toArray, List.set_cons_zero, List.set_cons_succ]
      refine restS_take (i := 4) SV.out rfl (by kernel_rfl) (by kernel_rfl) (by kernel_rfl) (by rfl) (fun v hv => by obtain ⟨v1, v2⟩ := hv; go_simp; try with_reducible rfl) ?_
      try simp only [Act.put, List.setIfInBounds_toArray, List.set_cons_zero, List.set_cons_succ]
      refine restS_take (i := 5) SV.out rfl (by kernel_rfl) (by kernel_rfl) (by kernel_rfl) (by rfl) (fun v hv => by obtain ⟨v1, v2⟩ := hv; go_simp; try with_reducible rfl) ?_
      try simp only [Act.put, List.setIfInBounds_toArray, List.set_cons_zero, List.set_cons_succ]
      refine restS_lone (i := 6) rfl (by kernel_rfl) (by rfl) (fun K hK => ?_)
      go_simp
      refine hK.out _ _ SX.out ?_
      clear hK K hl4' hf4' SV SX
      try simp only [Act.put, List.setIfInBounds_toArray, List.set_cons_zero, List.set_cons_succ]
      refine restS_done (by kernel_rfl) ?_
      generalize wd.setCell _ _ = w4 at X4 W4 E4 D4 ⊢
      go_wp2_with fail
      have X5 := Lib.hid (X4.out.keep (w' := w4.drew) (fun _ _ => rfl))
      have W5 := Lib.hid (show Wr w4.drew L from W4.out)
      have E5 := Lib.hid (show w4.drew.cell? ⟨w.heap.size, 0, none⟩ = some (.int .i64 (k : Int)) from E4.out)
      have D5 := Lib.hid D4.out.drew
      refine restS_begin (fun v : World => v.cell? ⟨G, 0, none⟩ = some (.slice (some ⟨Bd, 0, none⟩) nk nk) ∧ v.cell? ⟨w.heap.size, 0, none⟩ = some (.int .i64 (k : Int))) (by kernel_rfl) ?_
      clear X4 W4 E4 D4
      generalize w4.drew = w5 at X5 W5 E5 D5 ⊢
      have z0 : w5.cell? ⟨G, 0, none⟩ = some (.slice (some ⟨Bd, 0, none⟩) nk nk) := by
        obtain ⟨cq, -, z0, -⟩ := X5.out.cells
        rw [HNk.out]; exact z0
      have SV := Lib.hid (And.intro z0 E5.out)
      have HB5 := Lib.hid (show Rd w5 w5.heap.size A b from by
        rcases HB.out with e1 | ⟨b', off, e1, e2, e3⟩
        · exact .inl e1
        · by_cases hb0 : b = []
          · exact .inl hb0
          · exact .inr ⟨b', off, e1, Nat.lt_of_lt_of_le e2 D5.out.size, fun j hj => (D5.out.cell (p := ⟨b', off + j, none⟩) e2 (HOff.out ⟨b', off, none⟩ e1 hb0)).trans (e3 j hj)⟩)
      have HPa := Lib.hid (padded_any w5 A m c b HB5.out HM.out h5)
      clear z0
      refine restS_take (i := 0) SV.out rfl (by kernel_rfl) (by kernel_rfl) (by kernel_rfl) (by rfl) (fun v hv => by obtain ⟨v1, v2⟩ := hv; go_simp; try with_reducible rfl) ?_
      try simp only [Act.put, List.setIfInBounds_toArray, List.set_cons_zero, List.set_cons_succ]
      refine restS_take (i := 1) SV.out rfl (by kernel_rfl) (by kernel_rfl) (by kernel_rfl) (by rfl) (fun v hv => by obtain ⟨v1, v2⟩ := hv; go_simp; try with_reducible rfl) ?_
      try simp only [Act.put, List.setIfInBounds_toArray, List.set_cons_zero, List.set_cons_succ]
      refine restS_take (i := 2) SV.out rfl (by kernel_rfl) (by kernel_rfl) (by kernel_rfl) (by rfl) (fun v hv => by obtain ⟨v1, v2⟩ := hv; go_simp; try with_reducible rfl) ?_
      try simp only [Act.put, List.setIfInBounds_toArray, List.set_cons_zero, List.set_cons_succ]
      refine restS_take (i := 3) SV.out rfl (by kernel_rfl) (by kernel_rfl) (by kernel_rfl) (by rfl) (fun v hv => by obtain ⟨v1, v2⟩ := hv; go_simp; try with_reducible rfl) ?_
      try simp only [Act.put, List.setIfInBounds_toArray, List.set_cons_zero, List.set_cons_succ]
      refine restS_take (i := 4) SV.out rfl (by kernel_rfl) (by kernel_rfl) (by kernel_rfl) (by rfl) (fun v hv => by obtain ⟨v1, v2⟩ := hv; go_simp; try with_reducible rfl) ?_
      try simp only [Act.put, List.setIfInBounds_toArray, List.set_cons_zero, List.set_cons_succ]
      refine restS_take (i := 5) SV.out rfl (by kernel_rfl) (by kernel_rfl) (by kernel_rfl) (by rfl) (fun v hv => by obtain ⟨v1, v2⟩ := hv; go_simp; try with_reducible rfl) ?_
      try simp only [Act.put, List.setIfInBounds_toArray, List.set_cons_zero, List.set_cons_succ]
      refine restS_lone (i := 6) rfl (by kernel_rfl) (by rfl) (fun K hK => ?_)
      go_simp
      refine HPa.out.mono ?_
      rintro e w6 ⟨rfl, hg6⟩
      have G6 := Lib.hid hg6
      have X6 := Lib.hid (X5.out.grow hg6)
      have W6 := Lib.hid (W5.out.grow hg6)
      have SY := Lib.hid (show w6.cell? ⟨G, 0, none⟩ = some (.slice (some ⟨Bd, 0, none⟩) nk nk) ∧ w6.cell? ⟨w.heap.size, 0, none⟩ = some (.int .i64 (k : Int)) from
        ⟨(hg6.cell (p := ⟨G, 0, none⟩) (X5.out.lt G (.inl rfl))).trans SV.out.1, (hg6.cell (p := ⟨w.heap.size, 0, none⟩) (World.block_lt_of_cell? w5 _ SV.out.2)).trans SV.out.2⟩)
      refine hK.out _ _ SY.out ?_
      clear hK K hg6 HPa HB5 HB HOff
      try simp only [Act.put, List.setIfInBounds_toArray, List.set_cons_zero, List.set_cons_succ]
      have HPl := Lib.hid (pad512_len b (by have := HM.out; omega))
      obtain ⟨l, hl⟩ : ∃ l, l = pad512 b := ⟨_, rfl⟩
      rw [← hl] at HE HPl ⊢
      clear hl
      refine restS_take (i := 7) SY.out rfl (by kernel_rfl) (by kernel_rfl) (by kernel_rfl) (by rfl) (fun v hv => by obtain ⟨v1, v2⟩ := hv; go_simp; try with_reducible rfl) ?_
      try simp only [Act.put, List.setIfInBounds_toArray, List.set_cons_zero, List.set_cons_succ]
      refine restS_lone (i := 8) rfl (by kernel_rfl) (by rfl) (fun K hK => ?_)
      have HTh := Lib.hid (show w6.there Bd (k * 512) (bvs l).toArray.size by rw [List.size_toArray, bvs_length, HPl.out]; exact (X6.out.keptAt k HKl.out).2)
      refine wp_store_mid 86 (.tmp 34) (.tmp 33) rfl Bd (k * 512) _ rfl rfl HTh.out (size512 HPl.out) (one512 _) ?_
      have X7 := Lib.hid (X6.out.setKept k HKl.out l HPl.out)
      have SZ := Lib.hid (show (w6.setCells Bd (k * 512) (bvs l)).cell? ⟨G, 0, none⟩ = some (.slice (some ⟨Bd, 0, none⟩) nk nk) ∧ (w6.setCells Bd (k * 512) (bvs l)).cell? ⟨w.heap.size, 0, none⟩ = some (.int .i64 (k : Int)) from
        ⟨(World.cell?_of_block (a := ⟨G, 0, none⟩) (heap_setCells_other _ _ _ _ _ nGd)).trans SY.out.1, (World.cell?_of_block (a := ⟨w.heap.size, 0, none⟩) (heap_setCells_other _ _ _ _ _ (by show w.heap.size ≠ Bd; omega))).trans SY.out.2⟩)
      refine hK.out _ _ SZ.out ?_
      clear hK K
      try simp only [Act.put, List.setIfInBounds_toArray, List.set_cons_zero, List.set_cons_succ]
      refine restS_done (by kernel_rfl) ?_
      go_wp2
      go_ret
      rw [HE.out]
      have PZ : Pz (w6.setCells Bd (k * 512) (bvs l)) G Bd Bl Ap (keepW k L) left { st with kept := st.kept.set k l, pend := st.pend.filter fun p => decide (p.1 ≠ k) } :=
        { pr := by
            show Pr _ G Bd Bl Ap ⟨st.kept.set k l, (keepW k L).map (·.1), latRow (st.kept.set k l).length (keepW k L), st.count, left⟩
            rw [List.length_set]; exact X7.out
          wr := fun p hp => (heap_setCells_other _ _ _ _ _ (fun e => HW0.out.ap p (keepW_sub hp) (.inr (.inl e)))).trans (W6.out p (keepW_sub hp))
          ap := fun p hp => HW0.out.ap p (keepW_sub hp)
          pend := by rw [keepW_map, HW0.out.pend]
          p2 := fun p hp => by
            have := HW0.out.p2 p (keepW_sub hp)
            show p.2.1 < (st.kept.set k l).length ∧ _
            rw [List.length_set]; exact this
          calls := HW0.out.calls, l0 := HW0.out.l0, l1 := HW0.out.l1 }
      refine ⟨rfl, PZ.on (fun k' hk' => ?_) (chSetCells Bd (.inl (.inl (.inr (.inl rfl)))) _ _ _ (D5.out.trans (Ch.grown G6.out)))⟩
      rcases hk' with h1 | ⟨p, hp, e⟩
      · exact .inl (.inl h1)
      · exact .inl (.inr ⟨p, keepW_sub hp, e⟩)
    · have HE := Lib.hid (show dvTamper st n b = (2, st) by unfold dvTamper; rw [if_pos (.inr (by omega))])
      rw [decide_eq_false h5] at HH
      clear h hin h5 hb hm hoff
      go_enter Try.func24, Try.ntmps24
      go_wp2_with fail
      refine HH.out.mono ?_
      rintro e w0 ⟨rfl, rfl⟩
      clear HH
      go_wp2
      go_ret
      rw [HE.out]
      exact ⟨rfl, H1.out.same (Ch.grown G1.out)⟩
  · have HH := Lib.hid (takes_no1 H1.out n hin A m c)
    have HE := Lib.hid (show dvTamper st n b = (2, st) by unfold dvTamper; rw [if_pos (.inl (by unfold inR; exact hin))])
    clear h hin hb hm hoff
    go_enter Try.func24, Try.ntmps24
    go_wp2_with fail
    refine HH.out.mono ?_
    rintro e w0 ⟨rfl, rfl⟩
    clear HH
    go_wp2
    go_ret
    rw [HE.out]
    exact ⟨rfl, H1.out.same (Ch.grown G1.out)⟩
end
end Go.Proofs.Ythakdjaaknbmpaa.S13
