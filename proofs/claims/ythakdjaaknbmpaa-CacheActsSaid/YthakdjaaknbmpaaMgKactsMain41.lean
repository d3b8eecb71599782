/-
  From what the rows tell of a slice of acts (cache).
-/
import Derived.Test.YthakdjaaknbmpaaMgKactsMain13
import Derived.Test.YthakdjaaknbmpaaMgKactsMain40
import Derived.Deep.Strs
namespace Go.Proofs.Ythakdjaaknbmpaa
open Go.ChangeShapes Go.WideShapes Go.ChangeAt Go.RowKit Go.Deep
open S13
set_option linter.unusedVariables false
set_option linter.unusedSimpArgs false

instance : Inhabited S13.Ad := ⟨⟨0, 0, 0, [], []⟩⟩
theorem add_eq8 (b off j : Nat) : (⟨b, off, none⟩ : Addr).add j = ⟨b, off + j, none⟩ := by
  by_cases hj0 : j = 0
  · subst hj0; simp [Addr.add]
  · simp [Addr.add, hj0]
theorem bytes_of_trod8 {H : Type} {enc : TypeId × Value → H} {W : World} {fuel : Nat} {cs : List Value} {x : DataW H × List MemPlace} (h : DataW.trod enc Try.prog W 0 (fun _ => true) true fuel 38 cs = some x) :
    ∃ A n c l, cs = [.slice A n c] ∧ l.length = n ∧ Rd W W.heap.size A l ∧ n ≤ c := by
  rcases open_ints Try.underlying38 Try.underlying5 (by kernel_rfl) h with ⟨hcs, _⟩ | ⟨a, l, c, zs, hcs, _, hl, hm, hz, _, hcell, hwz⟩
  · exact ⟨none, 0, 0, [], hcs, rfl, .inl rfl, Nat.le_refl _⟩
  · obtain ⟨ls, h1, h2, h3, h4⟩ := rd_of_row (w := W) (a := some a) (len := l) (cap := c) (zs := zs) (.inr ⟨a, rfl, hl, hm, by simpa using hz, hcell, hwz⟩)
    exact ⟨some a, l, c, ls, hcs, h1, h2, h3⟩
theorem rdN_of_row8 {w : World} {a : Option Addr} {len cap : Nat} {zs : List Int} (h : IsRow .i64 w a len cap zs) : ∃ l : List Int, l.length = len ∧ RdN w w.heap.size a l ∧ len ≤ cap := by
  rcases h with ⟨rfl, rfl, rfl, rfl⟩ | ⟨x, rfl, h1, h2, h3, h4, h5⟩
  · exact ⟨[], rfl, .inl rfl, Nat.le_refl _⟩
  · refine ⟨zs.take len, by simp; omega, ?_, h1⟩
    by_cases h0 : len = 0
    · subst h0; exact .inl (by simp)
    · have hc0 := h4 0 (by omega)
      obtain ⟨b, off, spot⟩ := x
      have hspot : spot = none := by simpa [Addr.add] using World.cell?_spot hc0
      subst hspot
      have hlt : b < w.heap.size := by
        have := World.block_lt_of_cell? w _ hc0
        simpa [Addr.add] using this
      refine .inr ⟨b, off, rfl, hlt, fun j hj => ?_⟩
      simp at hj
      have hcj := h4 j (by omega)
      have eg : zs.getD j 0 = zs[j] := by simp [show j < zs.length by omega]
      rw [add_eq8, eg] at hcj
      rw [hcj]
      simp
theorem ints_of_trod8 {H : Type} {enc : TypeId × Value → H} {W : World} {fuel : Nat} {cs : List Value} {x : DataW H × List MemPlace} (h : DataW.trod enc Try.prog W 0 (fun _ => true) true fuel 34 cs = some x) :
    ∃ A n c l, cs = [.slice A n c] ∧ l.length = n ∧ RdN W W.heap.size A l ∧ n ≤ c := by
  rcases open_ints Try.underlying34 Try.underlying3 (by kernel_rfl) h with ⟨hcs, _⟩ | ⟨a, l, c, zs, hcs, _, hl, hm, hz, _, hcell, hwz⟩
  · exact ⟨none, 0, 0, [], hcs, rfl, .inl rfl, Nat.le_refl _⟩
  · obtain ⟨ls, h1, h2, h3⟩ := rdN_of_row8 (w := W) (a := some a) (len := l) (cap := c) (zs := zs) (.inr ⟨a, rfl, hl, hm, by simpa using hz, hcell, hwz⟩)
    exact ⟨some a, l, c, ls, hcs, h1, h2, h3⟩
set_option maxRecDepth 20000 in
theorem rdAd14_of_trod {H : Type} {enc : TypeId × Value → H} {W : World} {base : Nat} {v : Value} {d : DataW H} {p : List MemPlace} (hv : Value.okWide Try.prog W .any base 22 v)
    (h : DataW.Trod enc Try.prog W 0 (fun _ => true) true 22 v d p) :
    ∃ A n c acts, v = .slice A n c ∧ acts.length = n ∧ S13.RdAd W W.heap.size A acts ∧ n ≤ c := by
  obtain ⟨A, n, c, rfl⟩ := okWide_slice Try.underlying22 hv
  obtain ⟨fuel, hf⟩ := h
  rcases open_slice Try.underlying22 hf with ⟨hcs, _⟩ | ⟨a, len, cap, m, k, D, Pl, hcs, _, hl, hm, hmm, _, hr⟩
  · simp [Value.cells] at hcs
    obtain ⟨rfl, rfl, rfl⟩ := hcs
    exact ⟨none, 0, 0, [], rfl, rfl, .inl rfl, Nat.le_refl _⟩
  · simp [Value.cells] at hcs
    obtain ⟨rfl, rfl, rfl⟩ := hcs
    simp only [if_true] at hmm
    subst hmm
    have ce : Try.prog.cellsOf 40 = 5 := by kernel_rfl
    have ci : Try.prog.cellsOf 3 = 1 := by kernel_rfl
    have cs : Try.prog.cellsOf 38 = 1 := by kernel_rfl
    have cn : Try.prog.cellsOf 34 = 1 := by kernel_rfl
    have each : ∀ i, i < m → ∃ q : S13.Ad × (Option Addr × Nat) × (Option Addr × Nat), W.cell? (a.add (i * 5)) = some (.int .i64 q.1.k) ∧ W.cell? (a.add (i * 5 + 1)) = some (.int .i64 q.1.at_) ∧ W.cell? (a.add (i * 5 + 2)) = some (.int .i64 q.1.n) ∧ W.cell? (a.add (i * 5 + 3)) = some (.slice q.2.1.1 q.1.b.length q.2.1.2) ∧ W.cell? (a.add (i * 5 + 4)) = some (.slice q.2.2.1 q.1.keep.length q.2.2.2) ∧
        q.1.b.length ≤ q.2.1.2 ∧ q.1.keep.length ≤ q.2.2.2 ∧ Rd W W.heap.size q.2.1.1 q.1.b ∧ RdN W W.heap.size q.2.2.1 q.1.keep ∧ -9223372036854775808 ≤ q.1.n ∧ q.1.n < 9223372036854775808 := by
      intro i hi
      obtain ⟨cs', h1, h2⟩ := hr i hi
      rw [ce] at h1
      obtain ⟨_, hlen, hcell⟩ := World.cells?_some h1
      obtain ⟨xs, k2, hk, hxy, _, hxl, hfd⟩ := DataW.trod_struct Try.underlying40 h2
      match xs, hxl, cs', hlen with
      | [z0, z1, z2, z3, z4], _, [v0, v1, v2, v3, v4], _ =>
        have g0 := hfd 0 _ rfl
        have g1 := hfd 1 _ rfl
        have g2 := hfd 2 _ rfl
        have g3 := hfd 3 _ rfl
        have g4 := hfd 4 _ rfl
        simp [ci, cs, cn] at g0 g1 g2 g3 g4
        obtain ⟨x0, e0, _, _⟩ := DataW.trod_int Try.underlying3 g0
        obtain ⟨x1, e1, _, y1⟩ := DataW.trod_int Try.underlying3 g1
        obtain ⟨x2, e2, _, y2⟩ := DataW.trod_int Try.underlying3 g2
        obtain ⟨A3, n3, c3', l3, e3, hl3, hr3, hc3⟩ := bytes_of_trod8 g3
        obtain ⟨A4, n4, c4', l4, e4, hl4, hr4, hc4⟩ := ints_of_trod8 g4
        have c0 := hcell 0 (by omega)
        have c1 := hcell 1 (by omega)
        have c2 := hcell 2 (by omega)
        have c3 := hcell 3 (by omega)
        have c4 := hcell 4 (by omega)
        rw [add_add] at c0 c1 c2 c3 c4
        simp at e0 e1 e2 e3 e4 c0 c1 c2 c3 c4
        subst e0 e1 e2 e3 e4 hl3 hl4
        exact ⟨⟨⟨x0, x1, x2, l3, l4⟩, (A3, c3'), (A4, c4')⟩, c0, c1, c2, c3, c4, hc3, hc4, hr3, hr4, (bounds_i64 y2).1, by show x2 < 9223372036854775808; have := (bounds_i64 y2).2; omega⟩
    obtain ⟨q, hq⟩ := choose_lt each
    refine ⟨some a, n, m, (List.range n).map fun i => (q i).1, rfl, by simp, ?_, hl⟩
    by_cases h0 : n = 0
    · subst h0; exact .inl (by simp)
    · obtain ⟨b, off, spot⟩ := a
      have hc0 := (hq 0 (by omega)).1
      have hspot : spot = none := by simpa [Addr.add] using World.cell?_spot hc0
      subst hspot
      have hlt : b < W.heap.size := by
        have := World.block_lt_of_cell? W _ hc0
        simpa [Addr.add] using this
      refine .inr ⟨b, off, rfl, hlt, fun j hj => ?_⟩
      simp at hj
      obtain ⟨h1, h2, h3, h4, h5, h6, h7, h8, h9, h10, h11⟩ := hq j (by omega)
      rw [add_eq8] at h1 h2 h3 h4 h5
      simp only [List.getElem_map, List.getElem_range]
      exact ⟨(q j).2.1.1, _, (q j).2.1.2, (q j).2.2.1, _, (q j).2.2.2, h1, by rw [Nat.add_assoc]; exact h2, by rw [Nat.add_assoc]; exact h3, by rw [Nat.add_assoc]; exact h4, by rw [Nat.add_assoc]; exact h5, rfl, h6, h8, rfl, h7, h9, h10, h11⟩
end Go.Proofs.Ythakdjaaknbmpaa
