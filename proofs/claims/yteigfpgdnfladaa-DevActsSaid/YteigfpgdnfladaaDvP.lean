/-
  The laws of dev: DevKeeps.
-/
import Derived.Test.YteigfpgdnfladaaDvO
namespace Go.Proofs.Yteigfpgdnfladaa.S13
open Cf
open Go.RowKit
set_option linter.unusedVariables false
set_option linter.unusedSimpArgs false

def p7 (k : Nat) : List UInt8 := [7, UInt8.ofNat k]
/-- So many of the first writes are done. -/
def kW (j : Nat) : Dv := ⟨(dvNew 8).kept, (List.range j).map fun k => (k, pad512 (p7 k)), 0, -1⟩
def kF : Dv := (dvRaise (dvFlush (kW 8)).2).2
theorem kW_next (j : Nat) (hj : j < 8) : dvWrite (kW j) (j : Int) (p7 j) = (0, kW (j + 1)) := by
  unfold dvWrite
  have hl : (kW j).kept.length = 8 := List.length_replicate
  rw [if_neg (by unfold inR; rw [hl]; show ¬ (¬ _ ∨ 512 < 2); omega), if_pos (by rfl)]
  show (0, Dv.mk _ _ _ _) = (0, kW (j + 1))
  unfold kW
  rw [List.range_succ, List.map_append]
  rfl
theorem ok_kW (j : Nat) (hj : j ≤ 8) : Ok (kW j) 8 where
  kept := (ok_new 8).kept
  pend p hp := by
    obtain ⟨k, hk, rfl⟩ := List.mem_map.1 hp
    have := List.mem_range.1 hk
    refine ⟨?_, pad512_len _ (by show 2 ≤ 512; omega)⟩
    show k < (List.replicate 8 z512).length
    rw [List.length_replicate]; omega
  few := by show (List.map _ _).length ≤ 8; rw [List.length_map, List.length_range]; exact hj
  c0 := Int.le_refl _
  c1 := by show (0 : Int) ≤ maxCount; decide
  k0 := Int.le_refl _
  k1 := by show (-1 : Int) < 9223372036854775808; omega
/-- What nobody has touched is there. -/
structure Kp (st : Dv) (tu : List Bool) : Prop where
  n8 : st.kept.length = 8
  calls : st.calls = -1
  count : st.count = 1
  kept : ∀ k, k < 8 → tu.getD k false = false → st.kept.getD k [] = pad512 (p7 k)
  pend : ∀ p ∈ st.pend, p.1 < 8 ∧ tu.getD p.1 false = true
theorem kp_start : Kp kF (List.replicate 8 false) where
  n8 := by decide +kernel
  calls := by decide +kernel
  count := by decide +kernel
  kept k hk _ := by
    have : ∀ k : Fin 8, kF.kept.getD k.1 [] = pad512 (p7 k.1) := by decide +kernel
    exact this ⟨k, hk⟩
  pend p hp := absurd hp (by rw [show kF.pend = [] from rfl]; simp)
section
variable {st : Dv} {tu : List Bool}
theorem Kp.on (h : Kp st tu) : isOn st = true := by unfold isOn; rw [h.calls]; rfl
theorem Kp.tick (h : Kp st tu) : S13.tick st = st := by unfold S13.tick; rw [h.calls, if_neg (by omega)]
theorem Kp.write (h : Kp st tu) (htl : tu.length = 8) (a : Nat) (ha : a < 8) (b : List UInt8) (hb : b.length ≤ 512) : dvWrite st (a : Int) b = (0, { st with pend := st.pend ++ [(a, pad512 b)] }) ∧ Kp { st with pend := st.pend ++ [(a, pad512 b)] } (tu.set a true) := by
  constructor
  · unfold dvWrite
    rw [if_neg (by unfold inR; rw [h.n8]; omega), h.on, h.tick]
    rfl
  · have hg : ∀ k, (tu.set a true).getD k false = if k = a then true else tu.getD k false := fun k => by
      rw [List.getD_eq_getElem?_getD, List.getElem?_set, List.getD_eq_getElem?_getD]
      by_cases e : a = k
      · subst e; rw [if_pos rfl, if_pos (by omega), if_pos rfl]; rfl
      · rw [if_neg e, if_neg (Ne.symm e)]
    refine { h with kept := fun k hk ht => ?_, pend := fun p hp => ?_ }
    · rw [hg] at ht
      split at ht
      · cases ht
      · exact h.kept k hk ht
    · rw [hg]
      rcases List.mem_append.1 hp with hp | hp
      · refine ⟨(h.pend p hp).1, ?_⟩
        split
        · rfl
        · exact (h.pend p hp).2
      · simp only [List.mem_singleton] at hp
        subst hp
        exact ⟨ha, by simp⟩
theorem lay_other (k : Nat) : ∀ (l : List (Nat × List UInt8)) (kept : List (List UInt8)), (∀ p ∈ l, p.1 ≠ k) → (lay kept l).getD k [] = kept.getD k []
  | [], _, _ => rfl
  | p :: l, kept, h => by
    show (lay (kept.set p.1 p.2) l).getD k [] = _
    rw [lay_other k l _ (fun q hq => h q (by simp [hq])), List.getD_eq_getElem?_getD, List.getElem?_set, if_neg (h p (by simp)), List.getD_eq_getElem?_getD]
theorem Kp.crash (h : Kp st tu) (keep : List Int) : Kp (dvCrash st keep).2 tu where
  n8 := by show (lay _ _).length = 8; rw [lay_len]; exact h.n8
  calls := rfl
  count := h.count
  kept k hk ht := by
    show (lay _ _).getD k [] = _
    rw [lay_other k _ _ (fun p hp e => by
      have := (h.pend p (pick_sub _ _ _ p hp)).2
      rw [e, ht] at this
      cases this)]
    exact h.kept k hk ht
  pend p hp := absurd hp (by show ¬ p ∈ []; simp)
theorem latest_other (k : Nat) : ∀ (l : List (Nat × List UInt8)) (s : List UInt8), (∀ p ∈ l, p.1 ≠ k) → latest s l k = s
  | [], _, _ => rfl
  | p :: l, s, h => by
    unfold latest
    rw [if_neg (h p (by simp))]
    exact latest_other k l s (fun q hq => h q (by simp [hq]))
theorem Kp.begins (h : Kp st tu) (k : Nat) (hk : k < 8) (ht : tu.getD k false = false) : beg st (k : Int) (p7 k) := by
  have hr : dvRead st (k : Int) = (pad512 (p7 k), 0, st) := by
    unfold dvRead
    rw [if_neg (by unfold inR; rw [h.n8]; omega), h.on, h.tick]
    show (see st k, _, _) = _
    unfold see
    rw [latest_other k _ _ (fun p hp e => by
      have := (h.pend p hp).2
      rw [e, ht] at this
      cases this), h.kept k hk ht]
  unfold beg
  rw [hr]
  exact ⟨rfl, pad512_len _ (by show 2 ≤ 512; omega), rfl⟩
theorem Kp.read (h : Kp st tu) (k : Nat) (hk : k < 8) : (dvRead st (k : Int)).2.2 = st := by
  unfold dvRead
  rw [if_neg (by unfold inR; rw [h.n8]; omega), h.on, h.tick]
  rfl
end
section
variable {D : DTab}
/-- A row of rows of numbers that came in. -/
def RdNs (w : World) (B : Nat) (A : Option Addr) (ls : List (List Int)) : Prop := ls = [] ∨ ∃ b off, A = some ⟨b, off, none⟩ ∧ b < B ∧ ∀ j (h : j < ls.length), ∃ A2 n2 c2, w.cell? ⟨b, off + j, none⟩ = some (.slice A2 n2 c2) ∧ (ls[j]).length = n2 ∧ n2 ≤ c2 ∧ RdN w B A2 ls[j]
/-- .. and a row of eight bits of the law's own at g. -/
structure DT (D : DTab) (w0 w : World) (G : Nat) (F : Nat → Prop) (st : Dv) (g : Nat) (tu : List Bool) : Prop where
  s : DSince D w0 w G F st
  row : w.heap[g]? = some (.cells (tu.map Value.bool).toArray 52 (0, 0))
  off : ¬ F g
  new : w0.heap.size ≤ g
section
variable {w0 w w' : World} {G g : Nat} {F : Nat → Prop} {st st' : Dv} {tu : List Bool}
theorem DT.lt (h : DT D w0 w G F st g tu) : g < w.heap.size := by
  by_cases hl : g < w.heap.size
  · exact hl
  · have := h.row; rw [Array.getElem?_eq_none (by omega)] at this; cases this
theorem DT.grow (K : DevOk D) (h : DT D w0 w G F st g tu) (hg : Grown w w') : DT D w0 w' G F st g tu := ⟨h.s.grow K hg, (hg.block g h.lt).trans h.row, h.off, h.new⟩
theorem DT.step (h : DT D w0 w G F st g tu) (h1 : DOn D w G F st' w') : ∃ F', DT D w0 w' G F' st' g tu := by
  have hlt := h.lt
  obtain ⟨F', ha, hb, hc⟩ := h1
  refine ⟨F', ⟨ha, fun k hk => ?_, chSince h.s.2.2 hc h.s.2.1⟩, (hc.block g hlt h.off).trans h.row, fun hf => ?_, h.new⟩
  · rcases hb k hk with h4 | h4
    · exact h.s.2.1 k h4
    · exact Nat.le_trans h.s.2.2.size h4
  · rcases hb g hf with h4 | h4
    · exact h.off h4
    · omega
theorem DT.set (K : DevOk D) (h : DT D w0 w G F st g tu) (j : Nat) (b : Bool) : DT D w0 (w.setCell ⟨g, j, none⟩ (.bool b)) G F st g (tu.set j b) where
  s := by
    have hc : Ch (fun k => k = g) w (w.setCell ⟨g, j, none⟩ (.bool b)) := Ch.setCell (F := fun k => k = g) (Ch.refl _ _) (p := ⟨g, j, none⟩) (.inl rfl) _
    refine ⟨K.keep _ _ _ _ _ h.s.1 (fun k hk => hc.block k (K.foot _ _ _ _ h.s.1 k hk) (fun e => h.off (e ▸ hk))) hc.size, h.s.2.1, chSince h.s.2.2 hc (fun k hk => by rw [hk]; exact h.new)⟩
  row := by
    rw [heap_setCell_same w g j _ _ _ h.row]
    simp
  off := h.off
  new := h.new
theorem DT.cell (h : DT D w0 w G F st g tu) (j : Nat) (hj : j < tu.length) : w.cell? ⟨g, j, none⟩ = some (.bool (tu.getD j false)) := by
  rw [cell_of_row w g j _ _ (0, 0) h.row]
  simp [hj]
theorem DT.frozen (h : DT D w0 w G F st g tu) (j : Nat) : w.frozen? ⟨g, j, none⟩ = false := frozen_of_row w g j _ _ h.row
theorem wrT (K : DevOk D) {i : Nat} (Z : DT D w0 w G F st g tu) (hk : Ok st i) (hi : i ≤ 1000) (hl : st.kept.length ≤ 100) (n : Int) (b : List UInt8) (m : Nat) (fr : Nat × Nat) (hm : b.length = m) (hm2 : m ≤ 1000) (gz : Nat) (hgz : w.heap.size = gz) :
    Calls Try.prog 11 #[.pointer (some ⟨G, 0, none⟩), .int .i64 n, .slice (some ⟨gz, 0, none⟩) m m] (w.alloc (.cells (bvs b).toArray 5 fr)) fun e w' => e = .returned (.int .i64 (dvWrite st n b).1) ∧ ∃ F', DT D w0 w' G F' (dvWrite st n b).2 g tu := by
  subst hgz
  refine (K.write _ G F st i n _ m m b (K.grow Z.s.1 (alloc_below w _)) hk hi hl (.inr ⟨_, 0, rfl, by simp, fun j hj => ?_⟩) hm (Nat.le_refl _) hm2 (fun x hx _ hf => ?_)).mono ?_
  · rw [Nat.zero_add, cell_of_row _ _ j _ _ fr (heap_alloc_new w _)]; simp [bvs, hj]
  · simp only [Option.some.injEq] at hx
    subst hx
    have := K.foot w G F st Z.s.1 _ hf
    simp at this
  rintro e w2 ⟨rfl, hd⟩
  exact ⟨rfl, (Z.grow K (alloc_below w _)).step hd⟩
end
end
end Go.Proofs.Yteigfpgdnfladaa.S13
