/-
  The laws of dev: DevLosses: two devices and a row of numbers side by side.
-/
import Derived.Test.YteigfpgdnfladaaDvQ
namespace Go.Proofs.Yteigfpgdnfladaa.S13
open Cf
open Go.RowKit
set_option linter.unusedVariables false
set_option linter.unusedSimpArgs false

abbrev WL := List (Nat × List UInt8)
def dL (l : WL) : Dv := ⟨(dvNew 8).kept, l, 0, -1⟩
/-- .. all of them laid down. -/
def dR (l : WL) : Dv := ⟨lay (dvNew 8).kept l, [], 0, -1⟩
def Gd (l : WL) : Prop := ∀ p ∈ l, p.1 < 8 ∧ p.2.length = 512
def eL (ab : Bool) (l : WL) : WL := if ab then l else []
def ints (m : Nat) : List Int := (List.range m).map fun (j : Nat) => (j : Int)
theorem ints_len (m : Nat) : (ints m).length = m := by simp [ints]
theorem dL_len (l : WL) : (dL l).kept.length = 8 := List.length_replicate
theorem dL_write (l : WL) (a : Nat) (ha : a < 8) (x : UInt8) : dvWrite (dL l) (a : Int) [x] = (0, dL (l ++ [(a, pad512 [x])])) := by
  unfold dvWrite
  rw [if_neg (by unfold inR; rw [dL_len]; show ¬ (¬ _ ∨ 512 < 1); omega), if_pos (by rfl)]
  rfl
theorem dL_flush (l : WL) : (dvFlush (dL l)).2 = dR l := by
  unfold dvFlush
  rw [if_pos (by rfl)]
  rfl
theorem pick_all (m : Nat) : ∀ (l : WL) (j : Nat), j + l.length ≤ m → pick (ints m) j l = l
  | [], _, _ => rfl
  | p :: l, j, h => by
    simp only [List.length_cons] at h
    unfold pick
    rw [if_pos (by unfold ints; exact List.mem_map.2 ⟨j, List.mem_range.2 (by omega), rfl⟩), pick_all m l (j + 1) (by omega)]
theorem dL_crash (ab : Bool) (l : WL) : dvCrash (dL l) (ints (eL ab l).length) = (((eL ab l).length : Int), dR (eL ab l)) := by
  unfold dvCrash
  have h : pick (ints (eL ab l).length) 0 (dL l).pend = eL ab l := by
    cases ab with
    | false => exact pick_nil l 0
    | true => exact pick_all l.length l 0 (by omega)
  rw [h]
  rfl
theorem ok_dL {l : WL} (h : Gd l) (i : Nat) (hi : l.length ≤ i) : Ok (dL l) i where
  kept := (ok_new 8).kept
  pend p hp := by rw [dL_len]; exact h p hp
  few := hi
  c0 := Int.le_refl _
  c1 := by show (0 : Int) ≤ maxCount; decide
  k0 := Int.le_refl _
  k1 := by show (-1 : Int) < 9223372036854775808; omega
theorem gd_eL {l : WL} (h : Gd l) (ab : Bool) : Gd (eL ab l) := by
  cases ab
  · intro p hp; cases hp
  · exact h
structure L2 (D : DTab) (w0 w : World) (G : Nat) (F : Nat → Prop) (st : Dv) (R : Nat) (F2 : Nat → Prop) (st2 : Dv) (Ak : Option Addr) (ck m : Nat) : Prop where
  d : DSince D w0 w G F st
  e : DSince D w0 w R F2 st2
  dis : ∀ k, F k → ¬ F2 k
  row : Ow w w0.heap.size 3 Ak ck ((List.range m).map iv)
  off : ∀ x, Ak = some x → ¬ F x.block ∧ ¬ F2 x.block
section
variable {D : DTab} {w0 w w' : World} {G R : Nat} {F F2 : Nat → Prop} {st st' st2 : Dv} {Ak : Option Addr} {ck m : Nat}
theorem L2.grow (K : DevOk D) (h : L2 D w0 w G F st R F2 st2 Ak ck m) (hg : Grown w w') : L2 D w0 w' G F st R F2 st2 Ak ck m :=
  ⟨h.d.grow K hg, h.e.grow K hg, h.dis, owGrow h.row hg, h.off⟩
theorem L2.swap (h : L2 D w0 w G F st R F2 st2 Ak ck m) : L2 D w0 w R F2 st2 G F st Ak ck m := ⟨h.e, h.d, fun k a b => h.dis k b a, h.row, fun x hx => (h.off x hx).symm⟩
theorem L2.step (K : DevOk D) (h : L2 D w0 w G F st R F2 st2 Ak ck m) (h1 : DOn D w G F st' w') : ∃ F', L2 D w0 w' G F' st' R F2 st2 Ak ck m := by
  obtain ⟨F', ha, hb, hc⟩ := h1
  have hf2 := K.foot _ _ _ _ h.e.1
  refine ⟨F', ⟨ha, fun k hk => ?_, chSince h.d.2.2 hc h.d.2.1⟩, ⟨K.keep _ _ _ _ _ h.e.1 (fun k hk => hc.block k (hf2 k hk) (fun hf => h.dis k hf hk)) hc.size, h.e.2.1, chSince h.d.2.2 hc h.d.2.1⟩, fun k hk hk2 => ?_, h.row.keep fun x hx => hc.block _ (h.row.lt x hx).2 (h.off x hx).1, fun x hx => ⟨fun hf => ?_, (h.off x hx).2⟩⟩
  · rcases hb k hk with h4 | h4
    · exact h.d.2.1 k h4
    · exact Nat.le_trans h.d.2.2.size h4
  · rcases hb k hk with h4 | h4
    · exact h.dis k h4 hk2
    · have := hf2 k hk2; omega
  · rcases hb _ hf with h4 | h4
    · exact (h.off x hx).1 h4
    · have := (h.row.lt x hx).2; omega
theorem L2.app (K : DevOk D) (h : L2 D w0 w G F st R F2 st2 Ak ck m) {A' : Option Addr} {c' : Nat} (ho : Ow w' w0.heap.size 3 A' c' ((List.range m).map iv ++ [iv m])) (hg : w.grownBy w' (Value.slice Ak m ck).ownBlock) (hm : Moved w Ak A') : L2 D w0 w' G F st R F2 st2 A' c' (m + 1) := by
  have hfd := K.foot _ _ _ _ h.d.1
  have hfe := K.foot _ _ _ _ h.e.1
  have hg0 : Grown w0 w' := Below.grown h.d.2.2 hg (by exact h.d.2.2.size) (fun k hk => owBlk h.row (by simp) k hk)
  refine ⟨⟨K.keep _ _ _ _ _ h.d.1 (fun k hk => hg.block k (hfd k hk) (fun e => ?_)) hg.size, h.d.2.1, hg0⟩, ⟨K.keep _ _ _ _ _ h.e.1 (fun k hk => hg.block k (hfe k hk) (fun e => ?_)) hg.size, h.e.2.1, hg0⟩, h.dis, by rw [List.range_succ, List.map_append]; exact ho, fun x hx => ?_⟩
  · obtain ⟨x, hx, rfl⟩ := own_blk e; exact (h.off x hx).1 hk
  · obtain ⟨x, hx, rfl⟩ := own_blk e; exact (h.off x hx).2 hk
  · rcases moved_or hm x hx with h1 | h1
    · exact h.off x h1
    · exact ⟨fun hf => by have := hfd _ hf; omega, fun hf => by have := hfe _ hf; omega⟩
theorem L2.rdN (h : L2 D w0 w G F st R F2 st2 Ak ck m) : RdN w w.heap.size Ak (ints m) := by
  by_cases hm : m = 0
  · exact .inl (by rw [hm]; rfl)
  · obtain ⟨g, e, _, hl, _, _⟩ := h.row.at_ 0 (by simp; omega)
    refine .inr ⟨g, 0, e, hl, fun j hj => ?_⟩
    rw [ints_len] at hj
    obtain ⟨g2, e2, _, _, hc, _⟩ := h.row.at_ j (by simpa using hj)
    have : g2 = g := by rw [e] at e2; simp only [Option.some.injEq, Addr.mk.injEq] at e2; exact e2.1.symm
    subst this
    rw [Nat.zero_add, hc]
    simp [ints, iv]
theorem wrL (K : DevOk D) {i : Nat} (Z : L2 D w0 w G F st R F2 st2 Ak ck m) (hk : Ok st i) (hi : i ≤ 1000) (hl : st.kept.length ≤ 100) (n : Int) (b : List UInt8) (q : Nat) (fr : Nat × Nat) (hm : b.length = q) (hm2 : q ≤ 1000) (gz : Nat) (hgz : w.heap.size = gz) :
    Calls Try.prog 11 #[.pointer (some ⟨G, 0, none⟩), .int .i64 n, .slice (some ⟨gz, 0, none⟩) q q] (w.alloc (.cells (bvs b).toArray 5 fr)) fun e w' => e = .returned (.int .i64 (dvWrite st n b).1) ∧ ∃ F', L2 D w0 w' G F' (dvWrite st n b).2 R F2 st2 Ak ck m := by
  subst hgz
  refine (K.write _ G F st i n _ q q b (K.grow Z.d.1 (alloc_below w _)) hk hi hl (.inr ⟨_, 0, rfl, by simp, fun j hj => ?_⟩) hm (Nat.le_refl _) hm2 (fun x hx _ hf => ?_)).mono ?_
  · rw [Nat.zero_add, cell_of_row _ _ j _ _ fr (heap_alloc_new w _)]; simp [bvs, hj]
  · simp only [Option.some.injEq] at hx
    subst hx
    have := K.foot w G F st Z.d.1 _ hf
    simp at this
  rintro e w2 ⟨rfl, hd⟩
  exact ⟨rfl, (Z.grow K (alloc_below w _)).step K hd⟩
end
end Go.Proofs.Yteigfpgdnfladaa.S13
