/-
  Decryption as the program does it, on lists; the last two pieces of a list of pieces joined, in worlds.
-/
import Derived.Test.YtgfmdjagggnfbaaCqT
import Derived.Test.YtgfmdjagggnfbaaCqU
namespace Go.Proofs.Ytgfmdjagggnfbaa.S9
open Go.RowKit
open Go.Proofs.Ytgfmdjagggnfbaa.S7 hiding intOf
open Go.Proofs.Ytgfmdjagggnfbaa.S8 (z16)
set_option linter.unusedVariables false
set_option linter.unusedSimpArgs false

theorem gt_zip (a b : List UInt8) (j : Nat) (ha : j < a.length) (hb : j < b.length) : gt (Go.Proofs.Ytgfmdjagggnfbaa.xorL a b) j = gt a j ^^^ gt b j := by
  have h : j < (Go.Proofs.Ytgfmdjagggnfbaa.xorL a b).length := by rw [Go.Proofs.Ytgfmdjagggnfbaa.xorL_len]; omega
  rw [gt_get _ _ h, Go.Proofs.Ytgfmdjagggnfbaa.xorL_get a b j h ha hb, gt_get _ _ ha, gt_get _ _ hb]
/-- One block. -/
theorem dec_lone (W b : List UInt8) (h : b.length = 16) : jB (uB W (cutL 16 b)) 1 = ctsD W b := by
  have hn : nb b.length = 1 := by rw [h]; rfl
  have e0 : (cutL 16 b).getD 0 [] = pb b 0 := by
    rw [cutL_pc, hn]
    show pc b 0 = _
    exact pc_full b 0 (by omega)
  have e1 : jB (uB W (cutL 16 b)) 1 = uB W (cutL 16 b) 0 := rfl
  have e2 : jB (dB W b 1) 1 = dB W b 1 0 := rfl
  rw [e1]
  unfold ctsD
  rw [hn, e2, h, List.take_of_length_le (by rw [dB_len]; omega)]
  unfold uB dB
  rw [if_pos rfl, e0]
  exact xor_z16 _ (decL_len _ _)
/-- The block that the last two make. -/
def mend (W b : List UInt8) (p : Nat) : List UInt8 := pc b (p + 1) ++ (decL W (pc b p)).drop (pc b (p + 1)).length
theorem mend_stl (W b : List UInt8) (p : Nat) (h : nb b.length = p + 2) : mend W b p = stl W b (p + 2) := by
  have hk : (pc b (p + 1)).length = b.length - 16 * (p + 1) := by rw [pc_len]; unfold nb at h; omega
  have hpf : pc b p = pb b p := pc_full b p (by unfold nb at h; omega)
  have hL : 16 * (p + 1) < b.length ∧ b.length ≤ 16 * (p + 2) := by unfold nb at h; omega
  apply ext_gt
  · unfold mend
    rw [List.length_append, List.length_drop, decL_len, stl_len, hk]
    omega
  · intro j hj
    unfold mend stl at *
    rw [List.length_append, List.length_drop, decL_len, hk] at hj
    rw [gt_mk _ _ (by omega)]
    show _ = if 16 * (p + 1) + j < b.length then gt b (16 * (p + 1) + j) else gt (dX W b (p + 2)) j
    by_cases c : 16 * (p + 1) + j < b.length
    · rw [if_pos c, gt_left _ _ _ (by omega), gt_pc _ _ _ (by omega)]
    · rw [if_neg c, gt_right _ _ _ (by omega), gt_drop, hpf, show (pc b (p + 1)).length + (j - (pc b (p + 1)).length) = j by omega]
      rfl
theorem mend_len (W b : List UInt8) (p : Nat) (h : nb b.length = p + 2) : (mend W b p).length = 16 := by rw [mend_stl W b p h]; exact stl_len _ _ _
/-- The blocks that are unchained. -/
def lsD (W b : List UInt8) (p : Nat) : List (List UInt8) := (List.range p).map (pc b) ++ [mend W b p]
theorem lsD_len (W b : List UInt8) (p : Nat) : (lsD W b p).length = p + 1 := by simp [lsD]
theorem lsD_lo (W b : List UInt8) (p i : Nat) (hi : i < p) : (lsD W b p).getD i [] = pc b i := by
  simp only [lsD, List.getD_eq_getElem?_getD]
  rw [List.getElem?_append_left (by simp; omega)]
  simp [hi]
theorem lsD_hi (W b : List UInt8) (p : Nat) : (lsD W b p).getD p [] = mend W b p := by
  simp only [lsD, List.getD_eq_getElem?_getD]
  rw [List.getElem?_append_right (by simp)]
  simp
theorem uB_dB (W b : List UInt8) (p : Nat) (h : nb b.length = p + 2) (i : Nat) (hi : i < p + 1) : uB W (lsD W b p) i = dB W b (p + 2) i := by
  have hL : 16 * (p + 1) < b.length := by unfold nb at h; omega
  have hyu : yu (lsD W b p) i = yb b i := by
    cases i with
    | zero => rfl
    | succ i =>
      show (lsD W b p).getD i [] = pb b i
      rw [lsD_lo W b p i (by omega)]
      exact pc_full b i (by omega)
  unfold uB dB
  rw [if_neg (by omega), hyu]
  by_cases c : i = p
  · subst c
    rw [if_neg (by omega), if_pos rfl, lsD_hi, mend_stl W b i h]
  · rw [if_pos (by omega), lsD_lo W b p i (by omega), pc_full b i (by omega)]
theorem tail_dB (W b : List UInt8) (p : Nat) (h : nb b.length = p + 2) : Go.Proofs.Ytgfmdjagggnfbaa.xorL (decL W (pc b p)) (pc b (p + 1)) = (dB W b (p + 2) (p + 1)).take (b.length - 16 * (p + 1)) := by
  have hk : (pc b (p + 1)).length = b.length - 16 * (p + 1) := by rw [pc_len]; unfold nb at h; omega
  have hpf : pc b p = pb b p := pc_full b p (by unfold nb at h; omega)
  have hL : 16 * (p + 1) < b.length ∧ b.length ≤ 16 * (p + 2) := by unfold nb at h; omega
  apply ext_gt
  · rw [Go.Proofs.Ytgfmdjagggnfbaa.xorL_len, decL_len, hk, List.length_take, dB_len]
    omega
  · intro j hj
    rw [Go.Proofs.Ytgfmdjagggnfbaa.xorL_len, decL_len, hk] at hj
    rw [gt_zip _ _ _ (by rw [decL_len]; omega) (by omega), gt_take, if_pos (by omega)]
    unfold dB
    rw [if_neg (by omega), if_neg (by omega), if_neg (by omega), gt_xorL _ _ _ (by omega)]
    congr 1
    · rw [hpf]; rfl
    · unfold stl
      rw [gt_mk _ _ (by omega), if_pos (by show 16 * (p + 1) + j < b.length; omega), gt_pc _ _ _ (by omega)]
      rfl
theorem dec_more (W b : List UInt8) (p : Nat) (h : nb b.length = p + 2) : jB (uB W (lsD W b p)) (p + 1) ++ Go.Proofs.Ytgfmdjagggnfbaa.xorL (decL W (pc b p)) (pc b (p + 1)) = ctsD W b := by
  have hl := jB_len (dB W b (p + 2)) (dB_len W b (p + 2)) (p + 1)
  rw [tail_dB W b p h, jB_congr _ (dB W b (p + 2)) (p + 1) fun i hi => uB_dB W b p h i hi]
  unfold ctsD
  rw [h]
  show _ = (jB (dB W b (p + 2)) (p + 1) ++ dB W b (p + 2) (p + 1)).take b.length
  rw [List.take_append, hl, List.take_of_length_le (l := jB (dB W b (p + 2)) (p + 1)) (by rw [hl]; unfold nb at h; omega)]
theorem OwnV.block {w : World} {base gl c : Nat} {ls : List (List UInt8)} {vs : List Value} (h : OwnV w base (some ⟨gl, 0, none⟩) c ls vs) : ∃ cur, w.heap[gl]? = some (.cells cur 23 (0, 0)) ∧ base ≤ gl := by
  rcases h.2.1.2 with ⟨h4, _⟩ | ⟨g, cap, cur, h4, h5, h6, _⟩
  · simp at h4
  · simp only [Value.slice.injEq, Option.some.injEq, Addr.mk.injEq, and_true, true_and] at h4
    obtain ⟨rfl, _⟩ := h4
    exact ⟨cur, h6, h5⟩
theorem OwnV.cell {w : World} {base gl c : Nat} {ls : List (List UInt8)} {vs : List Value} (h : OwnV w base (some ⟨gl, 0, none⟩) c ls vs) (j : Nat) (hj : j < vs.length) : w.cell? ⟨gl, j, none⟩ = some vs[j] := by
  rw [h.2.1.cellAt j (by have := h.1; omega)]
  simp [hj]
/-- Bytes that are owned stay so when a cell of a block of another type is set. -/
theorem own_beside {w : World} {base g j c : Nat} {A : Option Addr} {l : List UInt8} {cur : Array Value} (h : Own w base A c l) (hg : w.heap[g]? = some (.cells cur 23 (0, 0))) (u : Value) : Own (w.setCell ⟨g, j, none⟩ u) base A c l := by
  refine h.kept (row := some g) ⟨rfl, rfl, rfl, by simp, fun k _ hne => heap_setCell_other w ⟨g, j, none⟩ k u (fun e => hne (by simp [e]))⟩ fun g' e cs hcs => ?_
  simp only [Option.some.injEq] at e
  subst e
  rw [hg] at hcs
  injection hcs with hcs
  injection hcs with _ ht
  exact absurd ht (by decide)
theorem own_some {w : World} {base c : Nat} {A : Option Addr} {l : List UInt8} (h : Own w base A c l) (hp : 0 < l.length) : ∃ g, A = some ⟨g, 0, none⟩ ∧ base ≤ g ∧ g < w.heap.size ∧ l.length ≤ c ∧ c ≤ maxLen := by
  rcases h.2 with ⟨h1, h2⟩ | ⟨g, cap, cur, h1, h2, h3, h4, h5, _⟩
  · omega
  · simp only [Value.slice.injEq] at h1
    obtain ⟨rfl, _, rfl⟩ := h1
    exact ⟨g, rfl, h2, lt_of_heap h3, h4, h5⟩
theorem own_base {w : World} {base c : Nat} {A : Option Addr} {l : List UInt8} (h : Own w base A c l) (hp : 0 < l.length) : base ≤ w.heap.size := by
  obtain ⟨g, _, h1, h2, _⟩ := own_some h hp
  omega
theorem ownV_le {w : World} {base c n : Nat} {A : Option Addr} {ls : List (List UInt8)} {vs : List Value} (h : OwnV w base A c ls vs) (hn : ls.length = n) : n ≤ c := by
  rcases h.2.1.2 with ⟨h4, h5⟩ | ⟨g, cap, cur, h4, _, _, h7, _⟩
  · omega
  · simp only [Value.slice.injEq] at h4
    omega
section
variable {w7 w8 : World} {base gl c p B cs c2 : Nat} {As A2 : Option Addr} {ls : List (List UInt8)} {vs vs0 : List Value} {S R : List UInt8}
theorem joined (hV : OwnV w7 base (some ⟨gl, 0, none⟩) c ls vs) (hp : ls.length = p + 2) (hvs : vs = vs0 ++ [.slice As S.length cs]) (hlow : lowV vs0 B) (hS : Own w7 B As cs S) (hSb : Own w7 base As cs S) (hS1 : 0 < S.length)
    (hg8 : w7.grownBy w8 (Value.slice As S.length cs).ownBlock) (hR : Own w8 B A2 c2 R) (hR16 : R.length = 16) (hb : base ≤ w7.heap.size) :
    (∃ u, w8.cell? ⟨gl, p, none⟩ = some u) ∧ w8.frozen? ⟨gl, p, none⟩ = false ∧
    RdL (w8.setCell ⟨gl, p, none⟩ (.slice A2 16 c2)) (w8.setCell ⟨gl, p, none⟩ (.slice A2 16 c2)).heap.size (some ⟨gl, 0, none⟩) (ls.take p ++ [R]) ∧
    Below base w7 (w8.setCell ⟨gl, p, none⟩ (.slice A2 16 c2)) ∧
    ∀ bt At ct T, Own w7 bt At ct T → (∀ x, As = some x → x.block < bt) → Own (w8.setCell ⟨gl, p, none⟩ (.slice A2 16 c2)) bt At ct T := by
  obtain ⟨cur, hgl, hbgl⟩ := hV.block
  obtain ⟨gs, rfl, hBs, hlts, _, _⟩ := own_some hS hS1
  have hbs : base ≤ gs := by
    obtain ⟨g', e, h1, _⟩ := own_some hSb hS1
    simp only [Option.some.injEq, Addr.mk.injEq, and_true] at e
    omega
  have hob : (Value.slice (some ⟨gs, 0, none⟩) S.length cs).ownBlock = some gs := by simp [Value.ownBlock]
  rw [hob] at hg8
  have hne : gl ≠ gs := by
    intro e
    subst e
    rcases hS.form with ⟨e, _⟩ | ⟨g', cur', e, _, hh, _⟩
    · cases e
    · simp only [Option.some.injEq, Addr.mk.injEq, and_true] at e
      subst e
      rw [hgl] at hh
      injection hh with hh
      injection hh with _ ht
      exact absurd ht (by decide)
  have hgl8 : w8.heap[gl]? = some (.cells cur 23 (0, 0)) := (hg8.block gl (lt_of_heap hgl) (by simp; exact hne)).trans hgl
  have hlen : vs.length = p + 2 := by have := hV.1; omega
  have hlen0 : vs0.length = p + 1 := by rw [hvs] at hlen; simp at hlen; omega
  have hcell : ∀ j (hj : j < vs.length), w8.cell? ⟨gl, j, none⟩ = some vs[j] := fun j hj => by
    have h7 := hV.cell j hj
    rw [cell_of_row w7 gl j cur _ (0, 0) hgl] at h7
    rw [cell_of_row w8 gl j cur _ (0, 0) hgl8]
    exact h7
  have hsz : (w8.setCell ⟨gl, p, none⟩ (.slice A2 16 c2)).heap.size = w8.heap.size := by simp
  have hc8 := hcell p (by omega)
  refine ⟨⟨_, hc8⟩, frozen_of_row w8 gl p cur _ hgl8, ?_, ?_, ?_⟩
  · refine .inr ⟨gl, 0, rfl, by rw [hsz]; exact lt_of_heap hgl8, fun j hj => ?_⟩
    simp only [List.length_append, List.length_take, List.length_cons, List.length_nil] at hj
    have hj1 : j < p + 1 := by omega
    by_cases hjp : j < p
    · have hjv : j < vs.length := by omega
      obtain ⟨Aj, cj, ej, hoj⟩ := hV.2.2 j (by omega) hjv
      have hel : (ls.take p ++ [R])[j]'(by simp; omega) = ls[j]'(by omega) := by
        rw [List.getElem_append_left (by simp; omega)]
        simp
      rw [hel]
      have hj0 : j < vs0.length := by omega
      have hvj : vs[j] = vs0[j] := by simp only [hvs]; rw [List.getElem_append_left hj0]
      have ho8 : Own w8 base Aj cj (ls[j]'(by omega)) := by
        refine World.ownsRow.kept hoj hg8 ?_
        rcases hoj.form with ⟨rfl, _⟩ | ⟨gj, curj, rfl, _⟩
        · exact .inl rfl
        · refine .inr ?_
          have := hlow vs0[j] (List.getElem_mem hj0) ⟨gj, 0, none⟩ _ _ (by rw [← hvj]; exact ej)
          simp only [Value.ownBlock]
          simp
          simp at this
          omega
      have ho9 := own_beside (j := p) ho8 hgl8 (.slice A2 16 c2)
      refine ⟨Aj, cj, ?_, ho9.le, ho9.rd⟩
      rw [Nat.zero_add, World.cell?_setCell_other _ _ _ _ (by simp <;> omega), hcell j hjv, ej]
    · obtain rfl : j = p := by omega
      have hel : (ls.take j ++ [R])[j]'(by simp; omega) = R := by
        rw [List.getElem_append_right (by rw [List.length_take]; omega)]
        simp
      rw [hel, hR16]
      have ho9 := own_beside (j := j) hR hgl8 (.slice A2 16 c2)
      refine ⟨A2, c2, ?_, ?_, ho9.rd⟩
      · rw [Nat.zero_add]
        exact World.cell?_setCell_same _ _ _ hc8
      · have := ho9.le
        omega
  · exact Below.setCell ((Below.refl _ _).grown hg8 hb (fun k hk => by simp only [Option.some.injEq] at hk; omega)) (p := ⟨gl, p, none⟩) hbgl _
  · intro bt At ct T ho hlt
    exact own_beside (S8.Own.but ho hg8 (hlt _ rfl)) hgl8 _
end
end Go.Proofs.Ytgfmdjagggnfbaa.S9
