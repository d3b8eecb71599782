/-
  The program's device in memory: a struct, a row of sectors, a row of what waits, a row of the latest ones. The program's cache in memory: a struct, a ring of entries, a map from sectors to entries.
-/
import Derived.Test.YthakdjaaknbmpaaMgKactsMain16
import Derived.Test.YthakdjaaknbmpaaMgKactsMain4
import Derived.Deep.MidRow
namespace Go.Proofs.Ythakdjaaknbmpaa.S13
open Cf
open Go.RowKit
set_option linter.unusedVariables false
set_option linter.unusedSimpArgs false

def pv (b : Nat) : Value := .pointer (some ⟨b, 0, none⟩)
def ov (o : Option Nat) : Value := .pointer (o.map fun b => ⟨b, 0, none⟩)
structure Ps where
  kept : List (List UInt8)
  row : List Nat
  lat : List (Option Nat)
  count : Int
  left : Int
def PzC (Bd Bl n : Nat) (Ap : Option Addr) (np cp : Nat) (count left : Int) : Array Value := #[.slice (some ⟨Bd, 0, none⟩) n n, .slice Ap np cp, .slice (some ⟨Bl, 0, none⟩) n n, .int .i64 count, .int .i64 left]
/-- Where it lies. -/
def PF (G Bd Bl : Nat) (Ap : Option Addr) (k : Nat) : Prop := k = G ∨ k = Bd ∨ k = Bl ∨ ∃ x, Ap = some x ∧ x.block = k
structure Pr (w : World) (G Bd Bl : Nat) (Ap : Option Addr) (s : Ps) : Prop where
  gd : G ≠ Bd
  gl : G ≠ Bl
  dl : Bd ≠ Bl
  ag : ∀ x, Ap = some x → x.block ≠ G
  ad : ∀ x, Ap = some x → x.block ≠ Bd
  al : ∀ x, Ap = some x → x.block ≠ Bl
  k512 : ∀ l ∈ s.kept, l.length = 512
  nl : s.lat.length = s.kept.length
  hd : w.heap[Bd]? = some (.cells (bvs s.kept.flatten).toArray 86 (0, 0))
  hl : w.heap[Bl]? = some (.cells (s.lat.map ov).toArray 82 (0, 0))
  ex : ∃ cp, w.heap[G]? = some (.cells (PzC Bd Bl s.kept.length Ap s.row.length cp s.count s.left) 65 (0, 0)) ∧ Ow w 0 82 Ap cp (s.row.map pv)
section
variable {w w' : World} {G Bd Bl : Nat} {Ap : Option Addr} {s : Ps}
theorem Pr.lt (h : Pr w G Bd Bl Ap s) : ∀ k, PF G Bd Bl Ap k → k < w.heap.size := by
  obtain ⟨cp, hG, hp⟩ := h.ex
  rintro k (rfl | rfl | rfl | ⟨x, hx, rfl⟩)
  · exact lt_of_heap hG
  · exact lt_of_heap h.hd
  · exact lt_of_heap h.hl
  · exact (hp.lt x hx).2
theorem Pr.keep (h : Pr w G Bd Bl Ap s) (hk : ∀ k, PF G Bd Bl Ap k → w'.heap[k]? = w.heap[k]?) : Pr w' G Bd Bl Ap s := by
  obtain ⟨cp, hG, hp⟩ := h.ex
  exact { h with hd := (hk _ (.inr (.inl rfl))).trans h.hd, hl := (hk _ (.inr (.inr (.inl rfl)))).trans h.hl, ex := ⟨cp, (hk G (.inl rfl)).trans hG, hp.keep fun x hx => hk _ (.inr (.inr (.inr ⟨x, hx, rfl⟩)))⟩ }
theorem Pr.grow (h : Pr w G Bd Bl Ap s) (hg : Grown w w') : Pr w' G Bd Bl Ap s := h.keep fun k hk => hg.block k (h.lt k hk)
/-- What a walk reads of the struct. -/
theorem Pr.cells (h : Pr w G Bd Bl Ap s) : ∃ cp, s.row.length ≤ cp ∧ w.cell? ⟨G, 0, none⟩ = some (.slice (some ⟨Bd, 0, none⟩) s.kept.length s.kept.length) ∧ w.cell? ⟨G, 1, none⟩ = some (.slice Ap s.row.length cp) ∧ w.cell? ⟨G, 2, none⟩ = some (.slice (some ⟨Bl, 0, none⟩) s.kept.length s.kept.length) ∧ w.cell? ⟨G, 3, none⟩ = some (.int .i64 s.count) ∧ w.cell? ⟨G, 4, none⟩ = some (.int .i64 s.left) := by
  obtain ⟨cp, hG, hp⟩ := h.ex
  have l1 := hp.le
  rw [List.length_map] at l1
  exact ⟨cp, l1, cell_of_row w G 0 _ _ (0, 0) hG, cell_of_row w G 1 _ _ (0, 0) hG, cell_of_row w G 2 _ _ (0, 0) hG, cell_of_row w G 3 _ _ (0, 0) hG, cell_of_row w G 4 _ _ (0, 0) hG⟩
theorem Pr.frozen (h : Pr w G Bd Bl Ap s) (j : Nat) : w.frozen? ⟨G, j, none⟩ = false := by
  obtain ⟨cp, hG, _⟩ := h.ex
  exact frozen_of_row w G j _ _ hG
/-- One of what waits. -/
theorem Pr.rowAt (h : Pr w G Bd Bl Ap s) (i : Nat) (hi : i < s.row.length) : ∃ g, Ap = some ⟨g, 0, none⟩ ∧ g < w.heap.size ∧ g ≠ G ∧ g ≠ Bd ∧ g ≠ Bl ∧ w.cell? ⟨g, i, none⟩ = some (pv s.row[i]) ∧ w.frozen? ⟨g, i, none⟩ = false := by
  obtain ⟨cp, hG, hp⟩ := h.ex
  obtain ⟨g, e, hb, hl, hc, hf⟩ := hp.at_ i (by rw [List.length_map]; exact hi)
  exact ⟨g, e, hl, h.ag _ e, h.ad _ e, h.al _ e, by rw [hc]; simp, hf⟩
theorem Pr.latAt (h : Pr w G Bd Bl Ap s) (i : Nat) (hi : i < s.kept.length) (o : Option Nat) (ho : s.lat[i]? = some o) : w.cell? ⟨Bl, i, none⟩ = some (ov o) ∧ w.frozen? ⟨Bl, i, none⟩ = false := by
  refine ⟨?_, frozen_of_row w Bl i _ _ h.hl⟩
  rw [cell_of_row w Bl i _ _ (0, 0) h.hl]
  simp [ho]
/-- A sector's cells. -/
theorem Pr.keptAt (h : Pr w G Bd Bl Ap s) (i : Nat) (hi : i < s.kept.length) : w.rangeAt Bd (i * 512) (bvs (s.kept.getD i [])) ∧ w.there Bd (i * 512) 512 := by
  have hl := flat_len s.kept h.k512
  have hk : (s.kept.getD i []).length = 512 := by
    rw [List.getD_eq_getElem?_getD, List.getElem?_eq_getElem hi]; exact h.k512 _ (List.getElem_mem _)
  refine ⟨fun j v hv => ?_, fun j hj => ⟨?_, frozen_of_row w Bd _ _ _ h.hd⟩⟩
  · have hj : j < 512 := by have := (List.getElem?_eq_some_iff.1 hv).1; rw [bvs_length, hk] at this; exact this
    rw [cell_of_row w Bd _ _ _ (0, 0) h.hd, ← hv]
    show (bvs s.kept.flatten).toArray[i * 512 + j]? = (bvs (s.kept.getD i []))[j]?
    simp only [bvs, List.getElem?_toArray, List.getElem?_map]
    rw [flat_at s.kept h.k512 i j hi hj]
  · rw [cell_of_row w Bd _ _ _ (0, 0) h.hd]
    show ((bvs s.kept.flatten).toArray[i * 512 + j]?).isSome = true
    have : i * 512 + j < (bvs s.kept.flatten).toArray.size := by
      simp only [List.size_toArray, bvs_length, hl]
      have : (i + 1) * 512 ≤ s.kept.length * 512 := Nat.mul_le_mul_right _ hi
      omega
    rw [Array.getElem?_eq_getElem this]; rfl
theorem Pr.offG (h : Pr w G Bd Bl Ap s) {e : TypeId} {c : Nat} {vs : List Value} (ho : Ow w 0 e Ap c vs) (j : Nat) (u : Value) : Ow (w.setCell ⟨G, j, none⟩ u) 0 e Ap c vs :=
  ho.keep fun x hx => heap_setCell_other w _ _ _ (h.ag x hx)
theorem Pr.setCount (h : Pr w G Bd Bl Ap s) (n : Int) : Pr (w.setCell ⟨G, 3, none⟩ (.int .i64 n)) G Bd Bl Ap { s with count := n } := by
  obtain ⟨cp, hG, hp⟩ := h.ex
  exact { h with hd := (heap_setCell_other w _ _ _ h.gd.symm).trans h.hd, hl := (heap_setCell_other w _ _ _ h.gl.symm).trans h.hl, ex := ⟨cp, by rw [heap_setCell_same w G 3 _ _ _ hG]; rfl, h.offG hp 3 _⟩ }
theorem Pr.setLeft (h : Pr w G Bd Bl Ap s) (n : Int) : Pr (w.setCell ⟨G, 4, none⟩ (.int .i64 n)) G Bd Bl Ap { s with left := n } := by
  obtain ⟨cp, hG, hp⟩ := h.ex
  exact { h with hd := (heap_setCell_other w _ _ _ h.gd.symm).trans h.hd, hl := (heap_setCell_other w _ _ _ h.gl.symm).trans h.hl, ex := ⟨cp, by rw [heap_setCell_same w G 4 _ _ _ hG]; rfl, h.offG hp 4 _⟩ }
theorem Pr.setLat (h : Pr w G Bd Bl Ap s) (i : Nat) (o : Option Nat) : Pr (w.setCell ⟨Bl, i, none⟩ (ov o)) G Bd Bl Ap { s with lat := s.lat.set i o } := by
  obtain ⟨cp, hG, hp⟩ := h.ex
  refine { h with nl := by rw [List.length_set]; exact h.nl, hd := (heap_setCell_other w _ _ _ h.dl).trans h.hd, hl := ?_, ex := ⟨cp, (heap_setCell_other w _ _ _ h.gl).trans hG, hp.keep fun x hx => heap_setCell_other w _ _ _ (h.al x hx)⟩ }
  rw [heap_setCell_same w Bl i _ _ _ h.hl, List.map_set]
  simp
theorem heap_setCells_other (b : Nat) : ∀ (vs : List Value) (o : Nat) (w : World) (k : Nat), k ≠ b → (w.setCells b o vs).heap[k]? = w.heap[k]?
  | [], _, _, _, _ => rfl
  | v :: r, o, w, k, hk => by
    rw [World.setCells, heap_setCells_other b r (o + 1) _ k hk]
    exact heap_setCell_other w _ _ _ hk
theorem heap_setCells_same (b : Nat) (t : TypeId) : ∀ (vs : List Value) (o : Nat) (w : World) (cur : List Value), w.heap[b]? = some (.cells cur.toArray t (0, 0)) → o + vs.length ≤ cur.length →
    ∃ l : List Value, (w.setCells b o vs).heap[b]? = some (.cells l.toArray t (0, 0)) ∧ l.length = cur.length ∧ ∀ m, l[m]? = if o ≤ m ∧ m < o + vs.length then vs[m - o]? else cur[m]?
  | [], o, w, cur, h, _ => ⟨cur, h, rfl, fun m => by rw [if_neg (by simp)]⟩
  | v :: r, o, w, cur, h, hl => by
    have h1 : (w.setCell ⟨b, o, none⟩ v).heap[b]? = some (.cells (cur.set o v).toArray t (0, 0)) := by
      rw [heap_setCell_same w b o _ _ _ h]; simp
    obtain ⟨l, e1, e2, e3⟩ := heap_setCells_same b t r (o + 1) _ _ h1 (by simp at hl ⊢; omega)
    refine ⟨l, by rw [World.setCells]; exact e1, by rw [e2, List.length_set], fun m => ?_⟩
    rw [e3]
    simp only [List.length_cons] at hl ⊢
    by_cases c1 : o + 1 ≤ m ∧ m < o + 1 + r.length
    · rw [if_pos c1, if_pos (by omega), show m - o = (m - (o + 1)) + 1 by omega, List.getElem?_cons_succ]
    · rw [if_neg c1, List.getElem?_set]
      by_cases c2 : o = m
      · subst c2
        rw [if_pos rfl, if_pos (by omega), if_pos (by omega)]; simp
      · rw [if_neg c2, if_neg (by omega)]
theorem Pr.setKept (h : Pr w G Bd Bl Ap s) (i : Nat) (hi : i < s.kept.length) (b : List UInt8) (hb : b.length = 512) : Pr (w.setCells Bd (i * 512) (bvs b)) G Bd Bl Ap { s with kept := s.kept.set i b } := by
  obtain ⟨cp, hG, hp⟩ := h.ex
  have hfl := flat_len s.kept h.k512
  have hle : (i + 1) * 512 ≤ s.kept.length * 512 := Nat.mul_le_mul_right _ hi
  obtain ⟨l, e1, e2, e3⟩ := heap_setCells_same Bd 86 (bvs b) (i * 512) w (bvs s.kept.flatten) h.hd (by rw [bvs_length, bvs_length, hb, hfl]; omega)
  refine { h with k512 := fun q hq => ?_, nl := by show s.lat.length = (s.kept.set i b).length; rw [List.length_set]; exact h.nl, hd := ?_, hl := (heap_setCells_other _ _ _ _ _ h.dl.symm).trans h.hl, ex := ⟨cp, by rw [heap_setCells_other _ _ _ _ _ h.gd, List.length_set]; exact hG, hp.keep fun x hx => heap_setCells_other _ _ _ _ _ (h.ad x hx)⟩ }
  · rcases List.mem_or_eq_of_mem_set hq with h1 | h1
    · exact h.k512 q h1
    · rw [h1]; exact hb
  · rw [e1]
    have : l = bvs (s.kept.set i b).flatten := by
      apply List.ext_getElem?
      intro m
      rw [e3]
      simp only [bvs, List.getElem?_map, List.length_map]
      rw [flat_set s.kept h.k512 i hi b hb m, hb]
      split <;> rfl
    rw [this]
/-- The row of what waits has been put in the struct: it is new, or was there. -/
theorem Pr.putRow {Ap' : Option Addr} {np cp' : Nat} {row' : List Nat} (h : Pr w G Bd Bl Ap s) (hn : row'.length = np) (hA : ∀ k, PF G Bd Bl Ap k → (∀ x, Ap = some x → x.block ≠ k) → w'.heap[k]? = w.heap[k]?) (ho : Ow w' 0 82 Ap' cp' (row'.map pv)) (hm : ∀ x, Ap' = some x → Ap = some x ∨ w.heap.size ≤ x.block) :
    Pr (w'.setCell ⟨G, 1, none⟩ (.slice Ap' np cp')) G Bd Bl Ap' { s with row := row' } := by
  subst hn
  obtain ⟨cp, hG, hp⟩ := h.ex
  have hlt := h.lt
  have hG' : w'.heap[G]? = _ := (hA G (.inl rfl) (fun x hx => h.ag x hx)).trans hG
  have a1 : ∀ x, Ap' = some x → x.block ≠ G ∧ x.block ≠ Bd ∧ x.block ≠ Bl := fun x hx => by
    rcases hm x hx with hy | hy
    · exact ⟨h.ag x hy, h.ad x hy, h.al x hy⟩
    · have i1 := hlt G (.inl rfl); have i2 := hlt Bd (.inr (.inl rfl)); have i3 := hlt Bl (.inr (.inr (.inl rfl)))
      exact ⟨by omega, by omega, by omega⟩
  refine { h with ag := fun x hx => (a1 x hx).1, ad := fun x hx => (a1 x hx).2.1, al := fun x hx => (a1 x hx).2.2, hd := ?_, hl := ?_, ex := ⟨cp', ?_, ho.keep fun x hx => heap_setCell_other _ _ _ _ (a1 x hx).1⟩ }
  · exact (heap_setCell_other _ _ _ _ h.gd.symm).trans ((hA Bd (.inr (.inl rfl)) (fun x hx => h.ad x hx)).trans h.hd)
  · exact (heap_setCell_other _ _ _ _ h.gl.symm).trans ((hA Bl (.inr (.inr (.inl rfl))) (fun x hx => h.al x hx)).trans h.hl)
  · rw [heap_setCell_same w' G 1 _ _ _ hG']; rfl
end
/-- The writes lie there. -/
def WrC (p : Pw) : Array Value := (.int .i64 (p.2.1 : Int) :: bvs p.2.2).toArray
def Wr (w : World) (L : List Pw) : Prop := ∀ p ∈ L, w.heap[p.1]? = some (.cells (WrC p) 88 (0, 0))
theorem Wr.keep {w w' : World} {L : List Pw} (h : Wr w L) (hk : ∀ p ∈ L, w'.heap[p.1]? = w.heap[p.1]?) : Wr w' L := fun p hp => (hk p hp).trans (h p hp)
theorem Wr.lt {w : World} {L : List Pw} (h : Wr w L) : ∀ p ∈ L, p.1 < w.heap.size := fun p hp => lt_of_heap (h p hp)
theorem Wr.grow {w w' : World} {L : List Pw} (h : Wr w L) (hg : Grown w w') : Wr w' L := h.keep fun p hp => hg.block _ (h.lt p hp)
theorem Wr.at_ {w : World} {L : List Pw} (h : Wr w L) {p : Pw} (hp : p ∈ L) : w.cell? ⟨p.1, 0, none⟩ = some (.int .i64 (p.2.1 : Int)) ∧ w.rangeAt p.1 1 (bvs p.2.2) := by
  have h1 := h p hp
  refine ⟨cell_of_row w _ 0 _ _ (0, 0) h1, fun j v hv => ?_⟩
  rw [cell_of_row w _ (1 + j) _ _ (0, 0) h1, ← hv]
  show (Value.int .i64 (p.2.1 : Int) :: bvs p.2.2).toArray[1 + j]? = _
  rw [List.getElem?_toArray, show 1 + j = j + 1 by omega, List.getElem?_cons_succ]
/-- The device. -/
structure Pz (w : World) (G Bd Bl : Nat) (Ap : Option Addr) (L : List Pw) (left : Int) (st : Dv) : Prop where
  pr : Pr w G Bd Bl Ap ⟨st.kept, L.map (·.1), latRow st.kept.length L, st.count, left⟩
  wr : Wr w L
  ap : ∀ p ∈ L, ¬ PF G Bd Bl Ap p.1
  pend : L.map (·.2) = st.pend
  p2 : ∀ p ∈ L, p.2.1 < st.kept.length ∧ p.2.2.length = 512
  calls : st.calls = if left < 0 then -1 else left
  l0 : -9223372036854775808 ≤ left
  l1 : left < 9223372036854775808
def FF (G Bd Bl : Nat) (Ap : Option Addr) (L : List Pw) (k : Nat) : Prop := PF G Bd Bl Ap k ∨ ∃ p ∈ L, p.1 = k
def Dz : DTab := fun w G F st => ∃ Bd Bl Ap L left, F = FF G Bd Bl Ap L ∧ Pz w G Bd Bl Ap L left st
section
variable {w w' : World} {G Bd Bl : Nat} {Ap : Option Addr} {L : List Pw} {left : Int} {st : Dv}
theorem Pz.lt (h : Pz w G Bd Bl Ap L left st) : ∀ k, FF G Bd Bl Ap L k → k < w.heap.size := by
  rintro k (hk | ⟨p, hp, rfl⟩)
  · exact h.pr.lt k hk
  · exact h.wr.lt p hp
theorem Pz.keep (h : Pz w G Bd Bl Ap L left st) (hk : ∀ k, FF G Bd Bl Ap L k → w'.heap[k]? = w.heap[k]?) : Pz w' G Bd Bl Ap L left st :=
  { h with pr := h.pr.keep fun k hf => hk k (.inl hf), wr := h.wr.keep fun p hp => hk _ (.inr ⟨p, hp, rfl⟩) }
theorem Pz.grow (h : Pz w G Bd Bl Ap L left st) (hg : Grown w w') : Pz w' G Bd Bl Ap L left st := h.keep fun k hk => hg.block k (h.lt k hk)
theorem Pz.on (h : Pz w' G Bd Bl Ap L left st) {w : World} {F : Nat → Prop} (hF : ∀ k, FF G Bd Bl Ap L k → F k ∨ w.heap.size ≤ k) (hc : Ch F w w') : DOn Dz w G F st w' := ⟨_, ⟨Bd, Bl, Ap, L, left, rfl, h⟩, hF, hc⟩
theorem Pz.same (h : Pz w' G Bd Bl Ap L left st) {w : World} (hc : Ch (FF G Bd Bl Ap L) w w') : DOn Dz w G (FF G Bd Bl Ap L) st w' := h.on (fun k hk => .inl hk) hc
end
end Go.Proofs.Ythakdjaaknbmpaa.S13
namespace Go.Proofs.Ythakdjaaknbmpaa.S14
open S13
open Cf
open Go.RowKit
set_option linter.unusedVariables false
set_option linter.unusedSimpArgs false

/-- An entry: its block, its sector, the block and the room of its bytes, the bytes. -/
structure En where
  b : Nat
  k : Nat
  A : Nat
  c : Nat
  s : List UInt8
def prj (e : En) : Nat × List UInt8 := (e.k, e.s)
def bs (es : List En) : List Nat := es.map (·.b)
/-- A node of the ring. -/
def Nd (w : World) (b : Nat) (x y : Value) (n o : Nat) : Prop := w.heap[b]? = some (.cells #[x, y, pv n, pv o] 77 (0, 0))
def bvl (e : En) : Value := .slice (some ⟨e.A, 0, none⟩) 512 e.c
section
variable {w w' : World} {b b' n o p q : Nat} {x y : Value}
theorem Nd.cells (h : Nd w b x y n o) : w.cell? ⟨b, 0, none⟩ = some x ∧ w.cell? ⟨b, 1, none⟩ = some y ∧ w.cell? ⟨b, 2, none⟩ = some (.pointer (some ⟨n, 0, none⟩)) ∧ w.cell? ⟨b, 3, none⟩ = some (.pointer (some ⟨o, 0, none⟩)) :=
  ⟨cell_of_row w b 0 _ _ (0, 0) h, cell_of_row w b 1 _ _ (0, 0) h, cell_of_row w b 2 _ _ (0, 0) h, cell_of_row w b 3 _ _ (0, 0) h⟩
theorem Nd.frozen (h : Nd w b x y n o) (j : Nat) : w.frozen? ⟨b, j, none⟩ = false := frozen_of_row w b j _ _ h
theorem Nd.keep (h : Nd w b x y n o) (hk : w'.heap[b]? = w.heap[b]?) : Nd w' b x y n o := hk.trans h
theorem Nd.lt (h : Nd w b x y n o) : b < w.heap.size := lt_of_heap h
theorem Nd.setOd (h : Nd w b x y n o) (p q : Nat) : Nd (w.setCell ⟨p, 3, none⟩ (pv q)) b x y n (if b = p then q else o) := by
  by_cases e : b = p
  · subst e
    rw [if_pos rfl]
    exact heap_setCell_same w b 3 _ _ _ h
  · rw [if_neg e]
    exact (heap_setCell_other w _ _ _ e).trans h
theorem Nd.setNw (h : Nd w b x y n o) (p q : Nat) : Nd (w.setCell ⟨p, 2, none⟩ (pv q)) b x y (if b = p then q else n) o := by
  by_cases e : b = p
  · subst e
    rw [if_pos rfl]
    exact heap_setCell_same w b 2 _ _ _ h
  · rw [if_neg e]
    exact (heap_setCell_other w _ _ _ e).trans h
end
/-- .. whose links are not laid yet. -/
def Nx (w : World) (b : Nat) (x y : Value) : Prop := ∃ u v, w.heap[b]? = some (.cells #[x, y, u, v] 77 (0, 0))
section
variable {w w' : World} {b n o p q : Nat} {x y : Value}
theorem Nd.nx (h : Nd w b x y n o) : Nx w b x y := ⟨_, _, h⟩
theorem Nx.lt (h : Nx w b x y) : b < w.heap.size := by
  obtain ⟨u, v, h⟩ := h
  exact lt_of_heap h
theorem Nx.keep (h : Nx w b x y) (hk : w'.heap[b]? = w.heap[b]?) : Nx w' b x y := by
  obtain ⟨u, v, h⟩ := h
  exact ⟨u, v, hk.trans h⟩
theorem Nx.cells (h : Nx w b x y) : ∃ u v, w.cell? ⟨b, 0, none⟩ = some x ∧ w.cell? ⟨b, 1, none⟩ = some y ∧ w.cell? ⟨b, 2, none⟩ = some u ∧ w.cell? ⟨b, 3, none⟩ = some v ∧ (∀ t, (w.setCell ⟨b, 2, none⟩ t).cell? ⟨b, 3, none⟩ = some v) ∧ w.frozen? ⟨b, 2, none⟩ = false ∧ ∀ t, (w.setCell ⟨b, 2, none⟩ t).frozen? ⟨b, 3, none⟩ = false := by
  obtain ⟨u, v, h⟩ := h
  exact ⟨u, v, cell_of_row w b 0 _ _ (0, 0) h, cell_of_row w b 1 _ _ (0, 0) h, cell_of_row w b 2 _ _ (0, 0) h, cell_of_row w b 3 _ _ (0, 0) h, fun t => cell_of_row _ b 3 _ _ (0, 0) (heap_setCell_same w b 2 _ _ _ h), frozen_of_row w b 2 _ _ h, fun t => frozen_of_row _ b 3 _ _ (heap_setCell_same w b 2 _ _ _ h)⟩
theorem Nx.both (h : Nx w b x y) (p q : Nat) : Nd ((w.setCell ⟨b, 2, none⟩ (pv p)).setCell ⟨b, 3, none⟩ (pv q)) b x y p q := by
  obtain ⟨u, v, h⟩ := h
  exact heap_setCell_same _ b 3 _ _ _ (heap_setCell_same w b 2 _ _ _ h)
end
/-- The ring. -/
structure Rn (w : World) (R : Nat) (nw od : Nat → Nat) (es : List En) : Prop where
  r : Nd w R (.int .i64 0) (.slice none 0 0) (nw R) (od R)
  n : ∀ e ∈ es, Nd w e.b (.int .i64 (e.k : Int)) (bvl e) (nw e.b) (od e.b)
  o : ∀ e ∈ es, e.s.length = 512 ∧ Own w 0 (some ⟨e.A, 0, none⟩) e.c e.s
  nd : (R :: bs es).Nodup
  p : pth nw od R (bs es) R
/-- What of it turns. -/
def RF (R : Nat) (es : List En) (k : Nat) : Prop := k = R ∨ k ∈ bs es
def RB (R : Nat) (es : List En) (k : Nat) : Prop := RF R es k ∨ ∃ e ∈ es, e.A = k
section
variable {w w' : World} {R : Nat} {nw od : Nat → Nat} {es es' : List En}
theorem mem_bs {e : En} (h : e ∈ es) : e.b ∈ bs es := List.mem_map_of_mem h
theorem of_bs {k : Nat} (h : k ∈ bs es) : ∃ e ∈ es, e.b = k := List.mem_map.1 h
theorem own_heap {A c : Nat} {s : List UInt8} (h : Own w 0 (some ⟨A, 0, none⟩) c s) : ∃ cur, w.heap[A]? = some (.cells cur 5 (0, 0)) := by
  rcases h.form with ⟨e1, _⟩ | ⟨g, cur, e1, _, hh, _⟩
  · cases e1
  · simp only [Option.some.injEq, Addr.mk.injEq] at e1
    obtain ⟨rfl, _⟩ := e1
    exact ⟨cur, hh⟩
theorem own_keep {A c : Nat} {s : List UInt8} (h : Own w 0 (some ⟨A, 0, none⟩) c s) (hk : w'.heap[A]? = w.heap[A]?) : Own w' 0 (some ⟨A, 0, none⟩) c s := by
  refine ⟨h.1, ?_⟩
  rcases h.2 with h1 | ⟨g, cap, cur, h1, h2, h3, r⟩
  · exact .inl h1
  · refine .inr ⟨g, cap, cur, h1, h2, ?_, r⟩
    simp only [Value.slice.injEq, Option.some.injEq, Addr.mk.injEq] at h1
    rw [← h1.1.1]
    rw [← h1.1.1] at h3
    exact hk.trans h3
/-- Bytes and nodes are no blocks of one kind. -/
theorem nd_own {b A c n o : Nat} {x y : Value} {s : List UInt8} (h : Nd w b x y n o) (h2 : Own w 0 (some ⟨A, 0, none⟩) c s) : A ≠ b := by
  rintro rfl
  obtain ⟨cur, h3⟩ := own_heap h2
  unfold Nd at h
  rw [h] at h3
  cases h3
theorem nx_own {b A c : Nat} {x y : Value} {s : List UInt8} (h : Nx w b x y) (h2 : Own w 0 (some ⟨A, 0, none⟩) c s) : A ≠ b := by
  rintro rfl
  obtain ⟨cur, h3⟩ := own_heap h2
  obtain ⟨u, v, h⟩ := h
  rw [h] at h3
  cases h3
theorem Rn.at_ (h : Rn w R nw od es) {k : Nat} (hk : RF R es k) : ∃ x y, Nd w k x y (nw k) (od k) := by
  rcases hk with rfl | hk
  · exact ⟨_, _, h.r⟩
  · obtain ⟨e, he, rfl⟩ := of_bs hk
    exact ⟨_, _, h.n e he⟩
theorem Rn.lt (h : Rn w R nw od es) {k : Nat} (hk : RB R es k) : k < w.heap.size := by
  rcases hk with hk | ⟨e, he, rfl⟩
  · obtain ⟨x, y, h1⟩ := h.at_ hk
    exact h1.lt
  · obtain ⟨cur, h1⟩ := own_heap (h.o e he).2
    exact lt_of_heap h1
theorem Rn.keep (h : Rn w R nw od es) (hk : ∀ k, RB R es k → w'.heap[k]? = w.heap[k]?) : Rn w' R nw od es where
  r := h.r.keep (hk R (.inl (.inl rfl)))
  n := fun e he => (h.n e he).keep (hk _ (.inl (.inr (mem_bs he))))
  o := fun e he => ⟨(h.o e he).1, own_keep (h.o e he).2 (hk _ (.inr ⟨e, he, rfl⟩))⟩
  nd := h.nd
  p := h.p
theorem Rn.grow (h : Rn w R nw od es) (hg : Grown w w') : Rn w' R nw od es := h.keep fun k hk => hg.block k (h.lt hk)
/-- 'leave' of the entry e. -/
theorem Rn.out1 {a b : List En} {e : En} (h : Rn w R nw od (a ++ e :: b)) :
    Rn ((w.setCell ⟨nw e.b, 3, none⟩ (pv (od e.b))).setCell ⟨od e.b, 2, none⟩ (pv (nw e.b))) R (upd1 nw (od e.b) (nw e.b)) (upd1 od (nw e.b) (od e.b)) (a ++ b) ∧
    Nd ((w.setCell ⟨nw e.b, 3, none⟩ (pv (od e.b))).setCell ⟨od e.b, 2, none⟩ (pv (nw e.b))) e.b (.int .i64 (e.k : Int)) (bvl e) (nw e.b) (od e.b) ∧ e.s.length = 512 ∧
    Own ((w.setCell ⟨nw e.b, 3, none⟩ (pv (od e.b))).setCell ⟨od e.b, 2, none⟩ (pv (nw e.b))) 0 (some ⟨e.A, 0, none⟩) e.c e.s ∧ e.b ∉ R :: bs (a ++ b) ∧ RF R (a ++ e :: b) (nw e.b) ∧ RF R (a ++ e :: b) (od e.b) := by
  have hbs : bs (a ++ e :: b) = bs a ++ e.b :: bs b := by simp [bs]
  have hbs2 : bs (a ++ b) = bs a ++ bs b := by simp [bs]
  have hnd := h.nd
  have hp := h.p
  rw [hbs] at hnd hp
  obtain ⟨h1, h2⟩ := (pth_split (bs a) R e.b R (bs b)).1 hp
  have e1 : RF R (a ++ e :: b) (nw e.b) := by
    rw [pth_last _ _ _ h1]
    rcases List.mem_cons.1 (lst_mem (bs a) R) with h3 | h3
    · exact .inl h3
    · exact .inr (by rw [hbs]; exact List.mem_append_left _ h3)
  have e2 : RF R (a ++ e :: b) (od e.b) := by
    rw [pth_first _ _ _ h2]
    rcases fst1_mem R (bs b) with h3 | h3
    · exact .inl h3
    · exact .inr (by rw [hbs]; exact List.mem_append_right _ (List.mem_cons_of_mem _ h3))
  have hm : ∀ x ∈ a ++ b, x ∈ a ++ e :: b := fun x hx => by
    rcases List.mem_append.1 hx with hx | hx
    · exact List.mem_append_left _ hx
    · exact List.mem_append_right _ (List.mem_cons_of_mem _ hx)
  have hem : e ∈ a ++ e :: b := List.mem_append_right _ List.mem_cons_self
  obtain ⟨hR, hn2⟩ := List.nodup_cons.1 hnd
  have hperm : (e.b :: (bs a ++ bs b)).Nodup := (List.perm_middle.nodup_iff).1 hn2
  obtain ⟨hne, hn3⟩ := List.nodup_cons.1 hperm
  have heR : e.b ≠ R := fun e => hR (by rw [← e]; exact List.mem_append_right _ List.mem_cons_self)
  have hRn : R ∉ bs a ++ bs b := fun hx => hR (by
    rcases List.mem_append.1 hx with hx | hx
    · exact List.mem_append_left _ hx
    · exact List.mem_append_right _ (List.mem_cons_of_mem _ hx))
  have hown : ∀ x ∈ a ++ e :: b, Own ((w.setCell ⟨nw e.b, 3, none⟩ (pv (od e.b))).setCell ⟨od e.b, 2, none⟩ (pv (nw e.b))) 0 (some ⟨x.A, 0, none⟩) x.c x.s := fun x hx => by
    obtain ⟨_, _, n1⟩ := h.at_ e1
    obtain ⟨_, _, n2⟩ := h.at_ e2
    have ho := (h.o x hx).2
    exact own_keep (own_keep ho (heap_setCell_other w _ _ _ (nd_own n1 ho))) (heap_setCell_other _ _ _ _ (nd_own n2 ho))
  refine ⟨{ r := ?_, n := fun x hx => ?_, o := fun x hx => ⟨(h.o x (hm x hx)).1, hown x (hm x hx)⟩, nd := ?_, p := ?_ }, ?_, (h.o e hem).1, hown e hem, ?_, e1, e2⟩
  · exact (h.r.setOd _ _).setNw _ _
  · exact ((h.n x (hm x hx)).setOd _ _).setNw _ _
  · rw [hbs2]
    exact List.nodup_cons.2 ⟨hRn, hn3⟩
  · rw [hbs2]
    exact pth_leave hp hnd
  · have h3 := ((h.n e hem).setOd (nw e.b) (od e.b)).setNw (od e.b) (nw e.b)
    have n1 : e.b ≠ nw e.b := by
      rw [pth_last _ _ _ h1]
      intro h4
      rcases List.mem_cons.1 (lst_mem (bs a) R) with h5 | h5
      · exact heR (h4.trans h5)
      · exact hne (List.mem_append_left _ (by rw [h4]; exact h5))
    have n2 : e.b ≠ od e.b := by
      rw [pth_first _ _ _ h2]
      intro h4
      rcases fst1_mem R (bs b) with h5 | h5
      · exact heR (h4.trans h5)
      · exact hne (List.mem_append_right _ (by rw [h4]; exact h5))
    rw [if_neg n1, if_neg n2] at h3
    exact h3
  · rw [hbs2]
    intro h4
    rcases List.mem_cons.1 h4 with h4 | h4
    · exact heR h4
    · exact hne h4
/-- 'lead' of the entry e: it lies there, in no ring. -/
theorem Rn.in1 {e : En} {q : Nat} (h : Rn w R nw od es) (hq : od R = q) (he : Nx w e.b (.int .i64 (e.k : Int)) (bvl e)) (hl : e.s.length = 512) (ho : Own w 0 (some ⟨e.A, 0, none⟩) e.c e.s) (hb : e.b ∉ R :: bs es) :
    Rn ((((w.setCell ⟨e.b, 2, none⟩ (pv R)).setCell ⟨e.b, 3, none⟩ (pv q)).setCell ⟨R, 3, none⟩ (pv e.b)).setCell ⟨q, 2, none⟩ (pv e.b)) R (upd1 (upd1 nw e.b R) q e.b) (upd1 (upd1 od e.b q) R e.b) (e :: es) ∧ RF R es q := by
  have hqm : RF R es q := by
    rw [← hq, pth_first _ _ _ h.p]
    rcases fst1_mem R (bs es) with h3 | h3
    · exact .inl h3
    · exact .inr h3
  have hbs : bs (e :: es) = e.b :: bs es := rfl
  obtain ⟨_, _, n2⟩ := h.at_ hqm
  have hown : ∀ (A c : Nat) (s : List UInt8), Own w 0 (some ⟨A, 0, none⟩) c s → Own ((((w.setCell ⟨e.b, 2, none⟩ (pv R)).setCell ⟨e.b, 3, none⟩ (pv q)).setCell ⟨R, 3, none⟩ (pv e.b)).setCell ⟨q, 2, none⟩ (pv e.b)) 0 (some ⟨A, 0, none⟩) c s := fun A c s ho =>
    own_keep (own_keep (own_keep (own_keep ho (heap_setCell_other _ _ _ _ (nx_own he ho))) (heap_setCell_other _ _ _ _ (nx_own he ho))) (heap_setCell_other _ _ _ _ (nd_own h.r ho))) (heap_setCell_other _ _ _ _ (nd_own n2 ho))
  have hnode : ∀ {k n o : Nat} {x y : Value}, Nd w k x y n o → Nd ((((w.setCell ⟨e.b, 2, none⟩ (pv R)).setCell ⟨e.b, 3, none⟩ (pv q)).setCell ⟨R, 3, none⟩ (pv e.b)).setCell ⟨q, 2, none⟩ (pv e.b)) k x y (if k = q then e.b else if k = e.b then R else n) (if k = R then e.b else if k = e.b then q else o) := fun hk =>
    (((hk.setNw e.b R).setOd e.b q).setOd R e.b).setNw q e.b
  simp only [List.mem_cons, not_or] at hb
  refine ⟨{ r := hnode h.r, n := fun x hx => ?_, o := fun x hx => ?_, nd := ?_, p := ?_ }, hqm⟩
  · rcases List.mem_cons.1 hx with rfl | hx
    · have h1 := ((he.both R q).setOd R x.b).setNw q x.b
      show Nd _ _ _ _ (if x.b = q then x.b else if x.b = x.b then R else nw x.b) (if x.b = R then x.b else if x.b = x.b then q else od x.b)
      rw [if_pos rfl, if_pos rfl]
      exact h1
    · exact hnode (h.n x hx)
  · rcases List.mem_cons.1 hx with rfl | hx
    · exact ⟨hl, hown _ _ _ ho⟩
    · exact ⟨(h.o x hx).1, hown _ _ _ (h.o x hx).2⟩
  · have := h.nd
    rw [hbs]
    obtain ⟨h1, h2⟩ := List.nodup_cons.1 this
    refine List.nodup_cons.2 ⟨fun hm => ?_, List.nodup_cons.2 ⟨hb.2, h2⟩⟩
    rcases List.mem_cons.1 hm with hm | hm
    · exact hb.1 hm.symm
    · exact h1 hm
  · exact pth_lead h.p h.nd (by simp only [List.mem_cons, not_or]; exact hb) hq
end
/-- The map from sectors to entries. -/
structure Mz (w : World) (M : Nat) (es : List En) (ms : List (Int × Nat)) : Prop where
  m : Mp.Mq ik pv w M ms
  k : ∀ n b, Mp.look ms n = some b ↔ ∃ e ∈ es, (e.k : Int) = n ∧ e.b = b
  l : ms.length = es.length
  nd : (es.map (·.k)).Nodup
section
variable {w w' : World} {M : Nat} {es es' : List En} {ms : List (Int × Nat)}
theorem Mz.keep (h : Mz w M es ms) (hk : w'.heap[M]? = w.heap[M]?) : Mz w' M es ms := { h with m := h.m.keep hk }
theorem Mz.lt (h : Mz w M es ms) : M < w.heap.size := h.m.lt
theorem Mz.perm (h : Mz w M es ms) (hp : es.Perm es') : Mz w M es' ms where
  m := h.m
  k := fun n b => (h.k n b).trans ⟨fun ⟨e, he, r⟩ => ⟨e, hp.mem_iff.1 he, r⟩, fun ⟨e, he, r⟩ => ⟨e, hp.mem_iff.2 he, r⟩⟩
  l := h.l.trans hp.length_eq
  nd := (hp.map _).nodup_iff.1 h.nd
theorem Mz.none_ (h : Mz w M es ms) {n : Int} (hn : ∀ e ∈ es, (e.k : Int) ≠ n) : Mp.look ms n = none := by
  cases hl : Mp.look ms n with
  | none => rfl
  | some b =>
    obtain ⟨e, he, h1, _⟩ := (h.k n b).1 hl
    exact absurd h1 (hn e he)
theorem Mz.some_ (h : Mz w M es ms) {e : En} (he : e ∈ es) : Mp.look ms (e.k : Int) = some e.b := (h.k _ _).2 ⟨e, he, rfl, rfl⟩
theorem mid_k {a b : List En} {e : En} : ((a ++ e :: b).map (·.k)).Nodup ↔ ((e :: (a ++ b)).map (·.k)).Nodup := ((List.perm_middle (a := e) (l₁ := a) (l₂ := b)).map En.k).nodup_iff
theorem key_inj {a b : List En} {e x : En} (h : ((a ++ e :: b).map (·.k)).Nodup) (hx : x ∈ a ++ b) : x.k ≠ e.k := by
  have : ((e :: (a ++ b)).map (·.k)).Nodup := mid_k.1 h
  rw [List.map_cons, List.nodup_cons] at this
  exact fun e2 => this.1 (e2 ▸ List.mem_map_of_mem hx)
/-- One is deleted. -/
theorem Mz.del {a b : List En} {e : En} (h : Mz w M (a ++ e :: b) ms) (hm : Mp.Mq ik pv w' M (Mp.del ms (e.k : Int))) : Mz w' M (a ++ b) (Mp.del ms (e.k : Int)) where
  m := hm
  k := fun n c => by
    rw [Mp.look_del _ _ _ h.m.2]
    by_cases hn : n = (e.k : Int)
    · rw [if_pos hn]
      refine ⟨fun h => (by cases h), fun ⟨x, hx, h1, _⟩ => ?_⟩
      exact absurd (show x.k = e.k by omega) (key_inj h.nd hx)
    · rw [if_neg hn, h.k]
      refine ⟨fun ⟨x, hx, h1, h2⟩ => ⟨x, ?_, h1, h2⟩, fun ⟨x, hx, h1, h2⟩ => ⟨x, ?_, h1, h2⟩⟩
      · rcases List.mem_append.1 hx with hx | hx
        · exact List.mem_append_left _ hx
        · rcases List.mem_cons.1 hx with rfl | hx
          · exact absurd h1.symm hn
          · exact List.mem_append_right _ hx
      · rcases List.mem_append.1 hx with hx | hx
        · exact List.mem_append_left _ hx
        · exact List.mem_append_right _ (List.mem_cons_of_mem _ hx)
  l := by
    have h1 := del_len (e.k : Int) ms (h.some_ (e := e) (List.mem_append_right _ List.mem_cons_self))
    have h2 := h.l
    simp only [List.length_append, List.length_cons] at h2 ⊢
    omega
  nd := by
    have : ((e :: (a ++ b)).map (·.k)).Nodup := mid_k.1 h.nd
    rw [List.map_cons, List.nodup_cons] at this
    exact this.2
/-- One comes in. -/
theorem Mz.add {e : En} (h : Mz w M es ms) (hn : ∀ x ∈ es, x.k ≠ e.k) (hm : Mp.Mq ik pv w' M (Mp.upd ms (e.k : Int) e.b)) : Mz w' M (e :: es) (Mp.upd ms (e.k : Int) e.b) where
  m := hm
  k := fun n c => by
    rw [Mp.look_upd]
    by_cases hn2 : n = (e.k : Int)
    · rw [if_pos hn2]
      refine ⟨fun h => ⟨e, List.mem_cons_self, hn2.symm, by injection h⟩, fun ⟨x, hx, h1, h2⟩ => ?_⟩
      rcases List.mem_cons.1 hx with rfl | hx
      · rw [h2]
      · exact absurd (show x.k = e.k by omega) (hn x hx)
    · rw [if_neg hn2, h.k]
      refine ⟨fun ⟨x, hx, h1⟩ => ⟨x, List.mem_cons_of_mem _ hx, h1⟩, fun ⟨x, hx, h1, h2⟩ => ⟨x, ?_, h1, h2⟩⟩
      rcases List.mem_cons.1 hx with rfl | hx
      · exact absurd h1.symm hn2
      · exact hx
  l := by
    rw [upd_len _ _ _ (h.none_ (fun x hx => by have := hn x hx; omega)), h.l]
    rfl
  nd := by
    rw [List.map_cons, List.nodup_cons]
    refine ⟨fun hm => ?_, h.nd⟩
    obtain ⟨x, hx, h1⟩ := List.mem_map.1 hm
    exact hn x hx h1
end
/-- The cache. -/
structure Kz (w : World) (G H R M room : Nat) (nw od : Nat → Nat) (es : List En) (ms : List (Int × Nat)) : Prop where
  g : w.heap[G]? = some (.cells #[.pointer (some ⟨H, 0, none⟩), .int .i64 (room : Int), .map (some M), pv R] 70 (0, 0))
  r : Rn w R nw od es
  m : Mz w M es ms
def KF (G R M : Nat) (es : List En) (k : Nat) : Prop := k = G ∨ k = M ∨ RB R es k
/-- .. without the bytes. -/
def KL (G R M : Nat) (es : List En) (k : Nat) : Prop := k = G ∨ k = M ∨ RF R es k
theorem KL.kf {G R M k : Nat} {es : List En} (h : KL G R M es k) : KF G R M es k := h.imp id fun h => h.imp id .inl
def Cz : CTab := fun w G F H room l => ∃ R M nw od es ms, F = KF G R M es ∧ l = es.map prj ∧ Kz w G H R M room nw od es ms
section
variable {w w' : World} {G H R M room : Nat} {nw od : Nat → Nat} {es es' : List En} {ms : List (Int × Nat)}
theorem Kz.cells (h : Kz w G H R M room nw od es ms) : w.cell? ⟨G, 0, none⟩ = some (.pointer (some ⟨H, 0, none⟩)) ∧ w.cell? ⟨G, 1, none⟩ = some (.int .i64 (room : Int)) ∧ w.cell? ⟨G, 2, none⟩ = some (.map (some M)) ∧ w.cell? ⟨G, 3, none⟩ = some (.pointer (some ⟨R, 0, none⟩)) :=
  ⟨cell_of_row w G 0 _ _ (0, 0) h.g, cell_of_row w G 1 _ _ (0, 0) h.g, cell_of_row w G 2 _ _ (0, 0) h.g, cell_of_row w G 3 _ _ (0, 0) h.g⟩
theorem Kz.lt (h : Kz w G H R M room nw od es ms) : ∀ k, KF G R M es k → k < w.heap.size := by
  rintro k (rfl | rfl | hk)
  · exact lt_of_heap h.g
  · exact h.m.lt
  · exact h.r.lt hk
theorem Kz.keep (h : Kz w G H R M room nw od es ms) (hk : ∀ k, KF G R M es k → w'.heap[k]? = w.heap[k]?) : Kz w' G H R M room nw od es ms where
  g := (hk G (.inl rfl)).trans h.g
  r := h.r.keep fun k hf => hk k (.inr (.inr hf))
  m := h.m.keep (hk M (.inr (.inl rfl)))
theorem Kz.grow (h : Kz w G H R M room nw od es ms) (hg : Grown w w') : Kz w' G H R M room nw od es ms := h.keep fun k hk => hg.block k (h.lt k hk)
theorem Kz.gm (h : Kz w G H R M room nw od es ms) : M ≠ G := h.m.m.mp.cells h.g
theorem Kz.mr (h : Kz w G H R M room nw od es ms) {k : Nat} (hk : RB R es k) : M ≠ k := by
  rcases hk with hk | ⟨e, he, rfl⟩
  · obtain ⟨x, y, h1⟩ := h.r.at_ hk
    exact h.m.m.mp.cells h1
  · obtain ⟨cur, h1⟩ := own_heap (h.r.o e he).2
    exact h.m.m.mp.cells h1
theorem Kz.gr (h : Kz w G H R M room nw od es ms) {k : Nat} (hk : RB R es k) : G ≠ k := by
  rintro rfl
  rcases hk with hk | ⟨e, he, rfl⟩
  · obtain ⟨x, y, h1⟩ := h.r.at_ hk
    unfold Nd at h1
    rw [h.g] at h1
    cases h1
  · obtain ⟨cur, h1⟩ := own_heap (h.r.o e he).2
    rw [h.g] at h1
    cases h1
theorem czKept : CKept Cz where
  foot := by
    rintro w G F H room l ⟨R, M, nw, od, es, ms, rfl, rfl, h⟩
    exact h.lt
  keep := by
    rintro w w' G F H room l ⟨R, M, nw, od, es, ms, rfl, rfl, h⟩ hk _
    exact ⟨R, M, nw, od, es, ms, rfl, rfl, h.keep hk⟩
end
end Go.Proofs.Ythakdjaaknbmpaa.S14
