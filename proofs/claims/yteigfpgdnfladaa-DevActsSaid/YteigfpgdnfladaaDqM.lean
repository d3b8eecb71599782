/-
  The program's device in memory: a struct, a row of sectors, a row of what waits, a row of the latest ones.
-/
import Derived.Test.YteigfpgdnfladaaDqL
import Derived.Deep.MidRow
namespace Go.Proofs.Yteigfpgdnfladaa.S13
open Cf
open Go.RowKit
set_option linter.unusedVariables false
set_option linter.unusedSimpArgs false

def pv (b : Nat) : Value := .pointer (some ⟨b, 0, none⟩)
def ov (o : Option Nat) : Value := .pointer (o.map fun b => ⟨b, 0, none⟩)
structure Ps where
  kept : List (List UInt8)
  row : List Nat
  lat : List (Option Nat)
  count : Int
  left : Int
def PzC (Bd Bl n : Nat) (Ap : Option Addr) (np cp : Nat) (count left : Int) : Array Value := #[.slice (some ⟨Bd, 0, none⟩) n n, .slice Ap np cp, .slice (some ⟨Bl, 0, none⟩) n n, .int .i64 count, .int .i64 left]
/-- Where it lies. -/
def PF (G Bd Bl : Nat) (Ap : Option Addr) (k : Nat) : Prop := k = G ∨ k = Bd ∨ k = Bl ∨ ∃ x, Ap = some x ∧ x.block = k
structure Pr (w : World) (G Bd Bl : Nat) (Ap : Option Addr) (s : Ps) : Prop where
  gd : G ≠ Bd
  gl : G ≠ Bl
  dl : Bd ≠ Bl
  ag : ∀ x, Ap = some x → x.block ≠ G
  ad : ∀ x, Ap = some x → x.block ≠ Bd
  al : ∀ x, Ap = some x → x.block ≠ Bl
  k512 : ∀ l ∈ s.kept, l.length = 512
  nl : s.lat.length = s.kept.length
  hd : w.heap[Bd]? = some (.cells (bvs s.kept.flatten).toArray 65 (0, 0))
  hl : w.heap[Bl]? = some (.cells (s.lat.map ov).toArray 63 (0, 0))
  ex : ∃ cp, w.heap[G]? = some (.cells (PzC Bd Bl s.kept.length Ap s.row.length cp s.count s.left) 61 (0, 0)) ∧ Ow w 0 63 Ap cp (s.row.map pv)
section
variable {w w' : World} {G Bd Bl : Nat} {Ap : Option Addr} {s : Ps}
theorem Pr.lt (h : Pr w G Bd Bl Ap s) : ∀ k, PF G Bd Bl Ap k → k < w.heap.size := by
  obtain ⟨cp, hG, hp⟩ := h.ex
  rintro k (rfl | rfl | rfl | ⟨x, hx, rfl⟩)
  · exact lt_of_heap hG
  · exact lt_of_heap h.hd
  · exact lt_of_heap h.hl
  · exact (hp.lt x hx).2
theorem Pr.keep (h : Pr w G Bd Bl Ap s) (hk : ∀ k, PF G Bd Bl Ap k → w'.heap[k]? = w.heap[k]?) : Pr w' G Bd Bl Ap s := by
  obtain ⟨cp, hG, hp⟩ := h.ex
  exact { h with hd := (hk _ (.inr (.inl rfl))).trans h.hd, hl := (hk _ (.inr (.inr (.inl rfl)))).trans h.hl, ex := ⟨cp, (hk G (.inl rfl)).trans hG, hp.keep fun x hx => hk _ (.inr (.inr (.inr ⟨x, hx, rfl⟩)))⟩ }
theorem Pr.grow (h : Pr w G Bd Bl Ap s) (hg : Grown w w') : Pr w' G Bd Bl Ap s := h.keep fun k hk => hg.block k (h.lt k hk)
/-- What a walk reads of the struct. -/
theorem Pr.cells (h : Pr w G Bd Bl Ap s) : ∃ cp, s.row.length ≤ cp ∧ w.cell? ⟨G, 0, none⟩ = some (.slice (some ⟨Bd, 0, none⟩) s.kept.length s.kept.length) ∧ w.cell? ⟨G, 1, none⟩ = some (.slice Ap s.row.length cp) ∧ w.cell? ⟨G, 2, none⟩ = some (.slice (some ⟨Bl, 0, none⟩) s.kept.length s.kept.length) ∧ w.cell? ⟨G, 3, none⟩ = some (.int .i64 s.count) ∧ w.cell? ⟨G, 4, none⟩ = some (.int .i64 s.left) := by
  obtain ⟨cp, hG, hp⟩ := h.ex
  have l1 := hp.le
  rw [List.length_map] at l1
  exact ⟨cp, l1, cell_of_row w G 0 _ _ (0, 0) hG, cell_of_row w G 1 _ _ (0, 0) hG, cell_of_row w G 2 _ _ (0, 0) hG, cell_of_row w G 3 _ _ (0, 0) hG, cell_of_row w G 4 _ _ (0, 0) hG⟩
theorem Pr.frozen (h : Pr w G Bd Bl Ap s) (j : Nat) : w.frozen? ⟨G, j, none⟩ = false := by
  obtain ⟨cp, hG, _⟩ := h.ex
  exact frozen_of_row w G j _ _ hG
/-- One of what waits. -/
theorem Pr.rowAt (h : Pr w G Bd Bl Ap s) (i : Nat) (hi : i < s.row.length) : ∃ g, Ap = some ⟨g, 0, none⟩ ∧ g < w.heap.size ∧ g ≠ G ∧ g ≠ Bd ∧ g ≠ Bl ∧ w.cell? ⟨g, i, none⟩ = some (pv s.row[i]) ∧ w.frozen? ⟨g, i, none⟩ = false := by
  obtain ⟨cp, hG, hp⟩ := h.ex
  obtain ⟨g, e, hb, hl, hc, hf⟩ := hp.at_ i (by rw [List.length_map]; exact hi)
  exact ⟨g, e, hl, h.ag _ e, h.ad _ e, h.al _ e, by rw [hc]; simp, hf⟩
theorem Pr.latAt (h : Pr w G Bd Bl Ap s) (i : Nat) (hi : i < s.kept.length) (o : Option Nat) (ho : s.lat[i]? = some o) : w.cell? ⟨Bl, i, none⟩ = some (ov o) ∧ w.frozen? ⟨Bl, i, none⟩ = false := by
  refine ⟨?_, frozen_of_row w Bl i _ _ h.hl⟩
  rw [cell_of_row w Bl i _ _ (0, 0) h.hl]
  simp [ho]
/-- A sector's cells. -/
theorem Pr.keptAt (h : Pr w G Bd Bl Ap s) (i : Nat) (hi : i < s.kept.length) : w.rangeAt Bd (i * 512) (bvs (s.kept.getD i [])) ∧ w.there Bd (i * 512) 512 := by
  have hl := flat_len s.kept h.k512
  have hk : (s.kept.getD i []).length = 512 := by
    rw [List.getD_eq_getElem?_getD, List.getElem?_eq_getElem hi]; exact h.k512 _ (List.getElem_mem _)
  refine ⟨fun j v hv => ?_, fun j hj => ⟨?_, frozen_of_row w Bd _ _ _ h.hd⟩⟩
  · have hj : j < 512 := by have := (List.getElem?_eq_some_iff.1 hv).1; rw [bvs_length, hk] at this; exact this
    rw [cell_of_row w Bd _ _ _ (0, 0) h.hd, ← hv]
    show (bvs s.kept.flatten).toArray[i * 512 + j]? = (bvs (s.kept.getD i []))[j]?
    simp only [bvs, List.getElem?_toArray, List.getElem?_map]
    rw [flat_at s.kept h.k512 i j hi hj]
  · rw [cell_of_row w Bd _ _ _ (0, 0) h.hd]
    show ((bvs s.kept.flatten).toArray[i * 512 + j]?).isSome = true
    have : i * 512 + j < (bvs s.kept.flatten).toArray.size := by
      simp only [List.size_toArray, bvs_length, hl]
      have : (i + 1) * 512 ≤ s.kept.length * 512 := Nat.mul_le_mul_right _ hi
      omega
    rw [Array.getElem?_eq_getElem this]; rfl
theorem Pr.offG (h : Pr w G Bd Bl Ap s) {e : TypeId} {c : Nat} {vs : List Value} (ho : Ow w 0 e Ap c vs) (j : Nat) (u : Value) : Ow (w.setCell ⟨G, j, none⟩ u) 0 e Ap c vs :=
  ho.keep fun x hx => heap_setCell_other w _ _ _ (h.ag x hx)
theorem Pr.setCount (h : Pr w G Bd Bl Ap s) (n : Int) : Pr (w.setCell ⟨G, 3, none⟩ (.int .i64 n)) G Bd Bl Ap { s with count := n } := by
  obtain ⟨cp, hG, hp⟩ := h.ex
  exact { h with hd := (heap_setCell_other w _ _ _ h.gd.symm).trans h.hd, hl := (heap_setCell_other w _ _ _ h.gl.symm).trans h.hl, ex := ⟨cp, by rw [heap_setCell_same w G 3 _ _ _ hG]; rfl, h.offG hp 3 _⟩ }
theorem Pr.setLeft (h : Pr w G Bd Bl Ap s) (n : Int) : Pr (w.setCell ⟨G, 4, none⟩ (.int .i64 n)) G Bd Bl Ap { s with left := n } := by
  obtain ⟨cp, hG, hp⟩ := h.ex
  exact { h with hd := (heap_setCell_other w _ _ _ h.gd.symm).trans h.hd, hl := (heap_setCell_other w _ _ _ h.gl.symm).trans h.hl, ex := ⟨cp, by rw [heap_setCell_same w G 4 _ _ _ hG]; rfl, h.offG hp 4 _⟩ }
theorem Pr.setLat (h : Pr w G Bd Bl Ap s) (i : Nat) (o : Option Nat) : Pr (w.setCell ⟨Bl, i, none⟩ (ov o)) G Bd Bl Ap { s with lat := s.lat.set i o } := by
  obtain ⟨cp, hG, hp⟩ := h.ex
  refine { h with nl := by rw [List.length_set]; exact h.nl, hd := (heap_setCell_other w _ _ _ h.dl).trans h.hd, hl := ?_, ex := ⟨cp, (heap_setCell_other w _ _ _ h.gl).trans hG, hp.keep fun x hx => heap_setCell_other w _ _ _ (h.al x hx)⟩ }
  rw [heap_setCell_same w Bl i _ _ _ h.hl, List.map_set]
  simp
theorem heap_setCells_other (b : Nat) : ∀ (vs : List Value) (o : Nat) (w : World) (k : Nat), k ≠ b → (w.setCells b o vs).heap[k]? = w.heap[k]?
  | [], _, _, _, _ => rfl
  | v :: r, o, w, k, hk => by
    rw [World.setCells, heap_setCells_other b r (o + 1) _ k hk]
    exact heap_setCell_other w _ _ _ hk
theorem heap_setCells_same (b : Nat) (t : TypeId) : ∀ (vs : List Value) (o : Nat) (w : World) (cur : List Value), w.heap[b]? = some (.cells cur.toArray t (0, 0)) → o + vs.length ≤ cur.length →
    ∃ l : List Value, (w.setCells b o vs).heap[b]? = some (.cells l.toArray t (0, 0)) ∧ l.length = cur.length ∧ ∀ m, l[m]? = if o ≤ m ∧ m < o + vs.length then vs[m - o]? else cur[m]?
  | [], o, w, cur, h, _ => ⟨cur, h, rfl, fun m => by rw [if_neg (by simp)]⟩
  | v :: r, o, w, cur, h, hl => by
    have h1 : (w.setCell ⟨b, o, none⟩ v).heap[b]? = some (.cells (cur.set o v).toArray t (0, 0)) := by
      rw [heap_setCell_same w b o _ _ _ h]; simp
    obtain ⟨l, e1, e2, e3⟩ := heap_setCells_same b t r (o + 1) _ _ h1 (by simp at hl ⊢; omega)
    refine ⟨l, by rw [World.setCells]; exact e1, by rw [e2, List.length_set], fun m => ?_⟩
    rw [e3]
    simp only [List.length_cons] at hl ⊢
    by_cases c1 : o + 1 ≤ m ∧ m < o + 1 + r.length
    · rw [if_pos c1, if_pos (by omega), show m - o = (m - (o + 1)) + 1 by omega, List.getElem?_cons_succ]
    · rw [if_neg c1, List.getElem?_set]
      by_cases c2 : o = m
      · subst c2
        rw [if_pos rfl, if_pos (by omega), if_pos (by omega)]; simp
      · rw [if_neg c2, if_neg (by omega)]
theorem Pr.setKept (h : Pr w G Bd Bl Ap s) (i : Nat) (hi : i < s.kept.length) (b : List UInt8) (hb : b.length = 512) : Pr (w.setCells Bd (i * 512) (bvs b)) G Bd Bl Ap { s with kept := s.kept.set i b } := by
  obtain ⟨cp, hG, hp⟩ := h.ex
  have hfl := flat_len s.kept h.k512
  have hle : (i + 1) * 512 ≤ s.kept.length * 512 := Nat.mul_le_mul_right _ hi
  obtain ⟨l, e1, e2, e3⟩ := heap_setCells_same Bd 65 (bvs b) (i * 512) w (bvs s.kept.flatten) h.hd (by rw [bvs_length, bvs_length, hb, hfl]; omega)
  refine { h with k512 := fun q hq => ?_, nl := by show s.lat.length = (s.kept.set i b).length; rw [List.length_set]; exact h.nl, hd := ?_, hl := (heap_setCells_other _ _ _ _ _ h.dl.symm).trans h.hl, ex := ⟨cp, by rw [heap_setCells_other _ _ _ _ _ h.gd, List.length_set]; exact hG, hp.keep fun x hx => heap_setCells_other _ _ _ _ _ (h.ad x hx)⟩ }
  · rcases List.mem_or_eq_of_mem_set hq with h1 | h1
    · exact h.k512 q h1
    · rw [h1]; exact hb
  · rw [e1]
    have : l = bvs (s.kept.set i b).flatten := by
      apply List.ext_getElem?
      intro m
      rw [e3]
      simp only [bvs, List.getElem?_map, List.length_map]
      rw [flat_set s.kept h.k512 i hi b hb m, hb]
      split <;> rfl
    rw [this]
/-- The row of what waits has been put in the struct: it is new, or was there. -/
theorem Pr.putRow {Ap' : Option Addr} {np cp' : Nat} {row' : List Nat} (h : Pr w G Bd Bl Ap s) (hn : row'.length = np) (hA : ∀ k, PF G Bd Bl Ap k → (∀ x, Ap = some x → x.block ≠ k) → w'.heap[k]? = w.heap[k]?) (ho : Ow w' 0 63 Ap' cp' (row'.map pv)) (hm : ∀ x, Ap' = some x → Ap = some x ∨ w.heap.size ≤ x.block) :
    Pr (w'.setCell ⟨G, 1, none⟩ (.slice Ap' np cp')) G Bd Bl Ap' { s with row := row' } := by
  subst hn
  obtain ⟨cp, hG, hp⟩ := h.ex
  have hlt := h.lt
  have hG' : w'.heap[G]? = _ := (hA G (.inl rfl) (fun x hx => h.ag x hx)).trans hG
  have a1 : ∀ x, Ap' = some x → x.block ≠ G ∧ x.block ≠ Bd ∧ x.block ≠ Bl := fun x hx => by
    rcases hm x hx with hy | hy
    · exact ⟨h.ag x hy, h.ad x hy, h.al x hy⟩
    · have i1 := hlt G (.inl rfl); have i2 := hlt Bd (.inr (.inl rfl)); have i3 := hlt Bl (.inr (.inr (.inl rfl)))
      exact ⟨by omega, by omega, by omega⟩
  refine { h with ag := fun x hx => (a1 x hx).1, ad := fun x hx => (a1 x hx).2.1, al := fun x hx => (a1 x hx).2.2, hd := ?_, hl := ?_, ex := ⟨cp', ?_, ho.keep fun x hx => heap_setCell_other _ _ _ _ (a1 x hx).1⟩ }
  · exact (heap_setCell_other _ _ _ _ h.gd.symm).trans ((hA Bd (.inr (.inl rfl)) (fun x hx => h.ad x hx)).trans h.hd)
  · exact (heap_setCell_other _ _ _ _ h.gl.symm).trans ((hA Bl (.inr (.inr (.inl rfl))) (fun x hx => h.al x hx)).trans h.hl)
  · rw [heap_setCell_same w' G 1 _ _ _ hG']; rfl
end
/-- The writes lie there. -/
def WrC (p : Pw) : Array Value := (.int .i64 (p.2.1 : Int) :: bvs p.2.2).toArray
def Wr (w : World) (L : List Pw) : Prop := ∀ p ∈ L, w.heap[p.1]? = some (.cells (WrC p) 68 (0, 0))
theorem Wr.keep {w w' : World} {L : List Pw} (h : Wr w L) (hk : ∀ p ∈ L, w'.heap[p.1]? = w.heap[p.1]?) : Wr w' L := fun p hp => (hk p hp).trans (h p hp)
theorem Wr.lt {w : World} {L : List Pw} (h : Wr w L) : ∀ p ∈ L, p.1 < w.heap.size := fun p hp => lt_of_heap (h p hp)
theorem Wr.grow {w w' : World} {L : List Pw} (h : Wr w L) (hg : Grown w w') : Wr w' L := h.keep fun p hp => hg.block _ (h.lt p hp)
theorem Wr.at_ {w : World} {L : List Pw} (h : Wr w L) {p : Pw} (hp : p ∈ L) : w.cell? ⟨p.1, 0, none⟩ = some (.int .i64 (p.2.1 : Int)) ∧ w.rangeAt p.1 1 (bvs p.2.2) := by
  have h1 := h p hp
  refine ⟨cell_of_row w _ 0 _ _ (0, 0) h1, fun j v hv => ?_⟩
  rw [cell_of_row w _ (1 + j) _ _ (0, 0) h1, ← hv]
  show (Value.int .i64 (p.2.1 : Int) :: bvs p.2.2).toArray[1 + j]? = _
  rw [List.getElem?_toArray, show 1 + j = j + 1 by omega, List.getElem?_cons_succ]
/-- The device. -/
structure Pz (w : World) (G Bd Bl : Nat) (Ap : Option Addr) (L : List Pw) (left : Int) (st : Dv) : Prop where
  pr : Pr w G Bd Bl Ap ⟨st.kept, L.map (·.1), latRow st.kept.length L, st.count, left⟩
  wr : Wr w L
  ap : ∀ p ∈ L, ¬ PF G Bd Bl Ap p.1
  pend : L.map (·.2) = st.pend
  p2 : ∀ p ∈ L, p.2.1 < st.kept.length ∧ p.2.2.length = 512
  calls : st.calls = if left < 0 then -1 else left
  l0 : -9223372036854775808 ≤ left
  l1 : left < 9223372036854775808
def FF (G Bd Bl : Nat) (Ap : Option Addr) (L : List Pw) (k : Nat) : Prop := PF G Bd Bl Ap k ∨ ∃ p ∈ L, p.1 = k
def Dz : DTab := fun w G F st => ∃ Bd Bl Ap L left, F = FF G Bd Bl Ap L ∧ Pz w G Bd Bl Ap L left st
section
variable {w w' : World} {G Bd Bl : Nat} {Ap : Option Addr} {L : List Pw} {left : Int} {st : Dv}
theorem Pz.lt (h : Pz w G Bd Bl Ap L left st) : ∀ k, FF G Bd Bl Ap L k → k < w.heap.size := by
  rintro k (hk | ⟨p, hp, rfl⟩)
  · exact h.pr.lt k hk
  · exact h.wr.lt p hp
theorem Pz.keep (h : Pz w G Bd Bl Ap L left st) (hk : ∀ k, FF G Bd Bl Ap L k → w'.heap[k]? = w.heap[k]?) : Pz w' G Bd Bl Ap L left st :=
  { h with pr := h.pr.keep fun k hf => hk k (.inl hf), wr := h.wr.keep fun p hp => hk _ (.inr ⟨p, hp, rfl⟩) }
theorem Pz.grow (h : Pz w G Bd Bl Ap L left st) (hg : Grown w w') : Pz w' G Bd Bl Ap L left st := h.keep fun k hk => hg.block k (h.lt k hk)
theorem Pz.on (h : Pz w' G Bd Bl Ap L left st) {w : World} {F : Nat → Prop} (hF : ∀ k, FF G Bd Bl Ap L k → F k ∨ w.heap.size ≤ k) (hc : Ch F w w') : DOn Dz w G F st w' := ⟨_, ⟨Bd, Bl, Ap, L, left, rfl, h⟩, hF, hc⟩
theorem Pz.same (h : Pz w' G Bd Bl Ap L left st) {w : World} (hc : Ch (FF G Bd Bl Ap L) w w') : DOn Dz w G (FF G Bd Bl Ap L) st w' := h.on (fun k hk => .inl hk) hc
end
end Go.Proofs.Yteigfpgdnfladaa.S13
