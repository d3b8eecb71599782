/-
  What hands the iterators back: Values, chosen.
-/
import Derived.Test.YteigfpgdnfladaaDqK
import Derived.Test.YteigfpgdnfladaaDvC
namespace Go.Proofs.Yteigfpgdnfladaa.S13
open Cf
open Go.RowKit
set_option linter.unusedVariables false
set_option linter.unusedSimpArgs false
def boolRow (s : List Int) (n : Nat) : List Value := (List.range n).map fun (j : Nat) => Value.bool (decide ((j : Int) ∈ s))
theorem boolRow_len (s : List Int) (n : Nat) : (boolRow s n).length = n := by simp [boolRow]
theorem boolRow_in (s : List Int) (n : Nat) (x : Nat) (hx : x < n) : boolRow (s ++ [(x : Int)]) n = (boolRow s n).set x (.bool true) := by
  apply List.ext_getElem
  · simp [boolRow]
  · intro i h1 h2
    rw [List.getElem_set]
    simp only [boolRow, List.getElem_map, List.getElem_range, List.mem_append, List.mem_singleton]
    by_cases h : x = i
    · subst h; simp
    · rw [if_neg h]
      have : ¬ (i : Int) = (x : Int) := by omega
      simp [this]
theorem boolRow_out (s : List Int) (n : Nat) (x : Int) (hx : x < 0 ∨ (n : Int) ≤ x) : boolRow (s ++ [x]) n = boolRow s n := by
  apply List.ext_getElem
  · simp [boolRow]
  · intro i h1 h2
    have hi : i < n := by simpa [boolRow] using h1
    simp only [boolRow, List.getElem_map, List.getElem_range, List.mem_append, List.mem_singleton]
    have : ¬ (i : Int) = x := by omega
    simp [this]
theorem boolRow_at (s : List Int) (n j : Nat) (hj : j < n) : (boolRow s n)[j]? = some (.bool (decide ((j : Int) ∈ s))) := by simp [boolRow, hj]
theorem boolRow_flags (s : List Int) (n : Nat) : boolRow s n = (flags s 0 n).map Value.bool := by
  apply List.ext_getElem
  · simp [boolRow, flags]
  · intro i h1 h2
    simp [boolRow, flags]
theorem boolRow_nil (n : Nat) : boolRow [] n = List.replicate n (.bool false) := by
  apply List.ext_getElem
  · simp [boolRow]
  · intro i h1 h2
    simp [boolRow]
theorem infoB : (Try.prog.info? 4).map (fun i => (i.zero, i.size, i.bytes)) = some (some (.bool false), 1, 1) := by kernel_rfl
theorem mkBool (n : Nat) (hn : n ≤ 100000) (W : World) : (Instr.makeSlice 78 (.int .i64 (n : Int)) (.int .i64 (n : Int))).run Try.prog W = .ok (.slice (some ⟨W.heap.size, 0, none⟩) n n) (W.alloc (.cells (boolRow [] n).toArray 4)) := by
  obtain ⟨i0, hi, hz0, hz1, hz2⟩ := info_parts infoB
  have hr := run_make (P := Try.prog) W 78 4 i0 _ Try.underlying78 hi hz0 .i64 .i64 (n : Int) (n : Int) (by omega) (by omega) (by rw [hz2]; omega) (by omega)
  simp only [Int.toNat_natCast, hz1, Nat.mul_one] at hr
  rw [hr]
  have : madeCells (Value.bool false).cells n = (boolRow [] n).toArray := by
    apply Array.toList_inj.1
    show (madeCells #[_] n).toList = _
    rw [toList_madeCells_one, boolRow_nil]
  rw [this]
/-- Where chosen's loop stands. -/
structure ChI (G np : Nat) (w wr : World) (s : List Int) : Prop where
  gr : Grown w wr
  bd : wr.cell? ⟨w.heap.size, 0, none⟩ = some (.pointer (some ⟨G, 0, none⟩))
  bx : wr.cell? ⟨w.heap.size + 1 + 1, 0, none⟩ = some (.slice (some ⟨w.heap.size + 1, 0, none⟩) np np)
  row : wr.heap[w.heap.size + 1]? = some (.cells (boolRow s np).toArray 4 (0, 0))
theorem ChI.set {G np : Nat} {w wr : World} {s : List Int} (h : ChI G np w wr s) (x : Nat) (hx : x < np) : ChI G np w (wr.setCell ⟨w.heap.size + 1, x, none⟩ (.bool true)) (s ++ [(x : Int)]) where
  gr := h.gr.setCell (p := ⟨w.heap.size + 1, x, none⟩) (by show w.heap.size ≤ w.heap.size + 1; omega) _
  bd := (World.cell?_of_block (a := ⟨w.heap.size, 0, none⟩) (heap_setCell_other wr ⟨w.heap.size + 1, x, none⟩ w.heap.size _ (by show w.heap.size ≠ w.heap.size + 1; omega))).trans h.bd
  bx := (World.cell?_of_block (a := ⟨w.heap.size + 1 + 1, 0, none⟩) (heap_setCell_other wr ⟨w.heap.size + 1, x, none⟩ (w.heap.size + 1 + 1) _ (by show w.heap.size + 1 + 1 ≠ w.heap.size + 1; omega))).trans h.bx
  row := by rw [heap_setCell_same wr (w.heap.size + 1) x _ _ _ h.row, boolRow_in s np x hx]; simp
theorem ChI.out_ {G np : Nat} {w wr : World} {s : List Int} (h : ChI G np w wr s) (x : Int) (hx : x < 0 ∨ (np : Int) ≤ x) : ChI G np w wr (s ++ [x]) :=
  { h with row := by rw [boolRow_out s np x hx]; exact h.row }
section
variable {w w' : World} {G Bd Bl : Nat} {Ap : Option Addr} {L : List Pw} {left : Int} {st : Dv} {i : Nat}
theorem values_any (w : World) (A : Option Addr) (n c : Nat) : Calls Try.prog 39 #[.slice A n c] w fun e w' =>
    e = .returned (.func (.func 43) #[] #[.pointer (some ⟨w.heap.size, 0, none⟩)]) ∧ w' = w.alloc (.cells #[.slice A n c] 59) := by
  go_enter Try.func39, Try.ntmps39
  go_wp2
  go_ret
  exact ⟨rfl, rfl⟩
set_option maxHeartbeats 2000000 in
theorem chosen_any (h : Pz w G Bd Bl Ap L left st) (hL : L.length ≤ 1000) (A : Option Addr) (m c : Nat) (keep : List Int) (hk : RdN w w.heap.size A keep) (hm : keep.length = m) (hm1 : m ≤ 1000) :
    Calls Try.prog 40 #[.pointer (some ⟨G, 0, none⟩), .slice A m c] w fun e w' =>
      e = .returned (.func (.func 44) #[] #[.pointer (some ⟨w.heap.size, 0, none⟩), .pointer (some ⟨w.heap.size + 2, 0, none⟩)]) ∧ Grown w w' ∧ w'.cell? ⟨w.heap.size, 0, none⟩ = some (.pointer (some ⟨G, 0, none⟩)) ∧
        w'.cell? ⟨w.heap.size + 2, 0, none⟩ = some (.slice (some ⟨w.heap.size + 1, 0, none⟩) L.length L.length) ∧ w'.heap[w.heap.size + 1]? = some (.cells (boolRow keep L.length).toArray 4 (0, 0)) := by
  have H := Lib.hid h
  have HK := Lib.hid hk
  have HM := Lib.hid hm
  obtain ⟨np, hnp⟩ : ∃ np, np = L.length := ⟨_, rfl⟩
  obtain ⟨cp, l1, c0, c1, c2, c3, c4⟩ := h.pr.cells
  rw [show (Ps.mk st.kept (L.map (·.1)) (latRow st.kept.length L) st.count left).row.length = np by rw [hnp]; exact List.length_map _] at c1
  rw [← hnp] at hL ⊢
  have hmk := mkBool np (by omega) (w.alloc (.cells #[.pointer (some ⟨G, 0, none⟩)] 24))
  rw [World.size_alloc] at hmk
  have hG1 : (w.alloc (.cells #[.pointer (some ⟨G, 0, none⟩)] 24)).cell? ⟨G, 1, none⟩ = some (.slice Ap np cp) := (World.cell?_of_block (a := ⟨G, 1, none⟩) ((alloc_below w _).block G (h.pr.lt G (.inl rfl)))).trans c1
  have GA := Lib.hid (alloc_below w (.cells #[.pointer (some ⟨G, 0, none⟩)] 24))
  have hcn := cellNew w (.pointer (some ⟨G, 0, none⟩)) 24
  have HCn := Lib.hid hcn
  clear h hk hm c0 c1 c2 c3 c4 l1 hnp
  go_enter Try.func40, Try.ntmps40
  go_wp2_with fail
  have I0 := Lib.hid (show ChI G np w (((w.alloc (.cells #[.pointer (some ⟨G, 0, none⟩)] 24)).alloc (.cells (boolRow [] np).toArray 4)).alloc (.cells #[.slice (some ⟨w.heap.size + 1, 0, none⟩) np np] 78)) [] from ⟨Grown.trans GA.out (Grown.trans (alloc_below _ _) (alloc_below _ _)),
    (World.cell?_of_block (a := ⟨w.heap.size, 0, none⟩) ((Grown.trans (alloc_below _ _) (alloc_below _ _)).block w.heap.size (by rw [World.size_alloc]; omega))).trans HCn.out,
    by have := cellNew ((w.alloc (.cells #[.pointer (some ⟨G, 0, none⟩)] 24)).alloc (.cells (boolRow [] np).toArray 4)) (.slice (some ⟨w.heap.size + 1, 0, none⟩) np np) 78; rw [World.size_alloc, World.size_alloc] at this; exact this,
    by rw [(alloc_below _ (.cells #[.slice (some ⟨w.heap.size + 1, 0, none⟩) np np] 78)).block (w.heap.size + 1) (by rw [World.size_alloc, World.size_alloc]; omega)]
       have := heap_alloc_new (w.alloc (.cells #[.pointer (some ⟨G, 0, none⟩)] 24)) (.cells (boolRow [] np).toArray 4)
       rw [World.size_alloc] at this; exact this⟩)
  generalize World.alloc (World.alloc _ _) _ = w3 at I0 ⊢
  clear hmk hG1 hcn HCn GA
  go_loopw [16] (fun v16 wr => ∃ (k : Nat), v16 = .int .i64 (k : Int) ∧ k ≤ m ∧ Hid (ChI G np w wr (keep.take k))) (fun v16 _ => m - (intOf v16).toNat)
  case atStart => exact ⟨0, rfl, Nat.zero_le _, I0.out⟩
  case round =>
    clear I0
    obtain ⟨k, rfl, hk, HI⟩ := hrel
    by_cases hlt : k < m
    · have bk : (k : Int) < (m : Int) := by omega
      have hkl : k < keep.length := by rw [HM.out]; exact hlt
      obtain ⟨b, off, hA, hb, hc⟩ : ∃ b off, A = some ⟨b, off, none⟩ ∧ b < w.heap.size ∧ ∀ j (h : j < keep.length), w.cell? ⟨b, off + j, none⟩ = some (.int .i64 keep[j]) := by
        rcases HK.out with e | e
        · rw [e] at hkl; simp at hkl
        · exact e
      obtain ⟨x, hx⟩ : ∃ x, x = keep[k] := ⟨_, rfl⟩
      have hcr : wr.cell? ⟨b, off + k, none⟩ = some (.int .i64 x) := (World.cell?_of_block (a := ⟨b, off + k, none⟩) (HI.out.gr.block b hb)).trans (by rw [hx]; exact hc k hkl)
      have HT := Lib.hid (show keep.take (k + 1) = keep.take k ++ [x] by rw [at_snoc keep k hkl, hx])
      have r2 : wr.cell? ⟨w.heap.size + 1 + 1, 0, none⟩ = some (.slice (some ⟨w.heap.size + 1, 0, none⟩) np np) := HI.out.bx
      subst hA
      clear hx hc hkl
      by_cases hx0 : x ≥ 0
      · by_cases hx1 : x < (np : Int)
        · obtain ⟨j, rfl⟩ : ∃ j : Nat, x = (j : Int) := ⟨x.toNat, by omega⟩
          have hrow := HI.out.row
          have r3 : wr.cell? ⟨w.heap.size + 1, j, none⟩ = some (.bool (decide ((j : Int) ∈ keep.take k))) := by rw [cell_of_row wr _ j _ _ (0, 0) hrow, List.getElem?_toArray]; exact boolRow_at _ np j (by omega)
          have r4 := frozen_of_row wr (w.heap.size + 1) j _ _ hrow
          have HI2 := Lib.hid (show ChI G np w (wr.setCell ⟨w.heap.size + 1, j, none⟩ (.bool true)) (keep.take (k + 1)) by rw [HT.out]; exact HI.out.set j (by omega))
          clear hrow
          go_wp2
          go_roundw
          case rel => exact ⟨k + 1, by simp, by omega, HI2.out⟩
          case measure => simp [intOf]; omega
        · have HI2 := Lib.hid (show ChI G np w wr (keep.take (k + 1)) by rw [HT.out]; exact HI.out.out_ x (.inr (by omega)))
          go_wp2
          go_roundw
          case rel => exact ⟨k + 1, by simp, by omega, HI2.out⟩
          case measure => simp [intOf]; omega
      · have HI2 := Lib.hid (show ChI G np w wr (keep.take (k + 1)) by rw [HT.out]; exact HI.out.out_ x (.inl (by omega)))
        go_wp2
        go_roundw
        case rel => exact ⟨k + 1, by simp, by omega, HI2.out⟩
        case measure => simp [intOf]; omega
    · have bk : ¬ (k : Int) < (m : Int) := by omega
      have HE := Lib.hid (show keep.take k = keep by rw [List.take_of_length_le (by rw [HM.out]; omega)])
      rw [HE.out] at HI
      go_wp2
      go_ret
      exact ⟨rfl, HI.out.gr, HI.out.bd, HI.out.bx, HI.out.row⟩
end
end Go.Proofs.Yteigfpgdnfladaa.S13
