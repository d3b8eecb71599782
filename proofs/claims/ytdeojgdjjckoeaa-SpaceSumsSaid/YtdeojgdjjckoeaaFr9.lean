/-
  From what the rows tell of a slice of acts (space), of a slice of truths.
-/
import Derived.Test.YtdeojgdjjckoeaaSpB
import Derived.Test.YtdeojgdjjckoeaaSpU
import Derived.Test.YtdeojgdjjckoeaaFrm
import Derived.Deep.Strs
import Derived.Deep.Grids
namespace Go.Proofs.Ytdeojgdjjckoeaa
open Go.ChangeShapes Go.WideShapes Go.ChangeAt Go.RowKit Go.Deep
open S15
set_option linter.unusedVariables false
set_option linter.unusedSimpArgs false

instance : Inhabited S15.Ac := ⟨⟨0, []⟩⟩
theorem add_eq9 (b off j : Nat) : (⟨b, off, none⟩ : Addr).add j = ⟨b, off + j, none⟩ := by
  by_cases hj0 : j = 0
  · subst hj0; simp [Addr.add]
  · simp [Addr.add, hj0]
theorem rdZ_of_row9 {w : World} {a : Option Addr} {len cap : Nat} {zs : List Int} (h : IsRow .i64 w a len cap zs) : ∃ l : List Int, l.length = len ∧ RdZ w w.heap.size a l ∧ len ≤ cap ∧ Irs l := by
  rcases h with ⟨rfl, rfl, rfl, rfl⟩ | ⟨x, rfl, h1, h2, h3, h4, h5⟩
  · exact ⟨[], rfl, .inl rfl, Nat.le_refl _, fun x hx => by simp at hx⟩
  · refine ⟨zs.take len, by simp; omega, ?_, h1, fun y hy => ?_⟩
    · by_cases h0 : len = 0
      · subst h0; exact .inl (by simp)
      · have hc0 := h4 0 (by omega)
        obtain ⟨b, off, spot⟩ := x
        have hspot : spot = none := by simpa [Addr.add] using World.cell?_spot hc0
        subst hspot
        have hlt : b < w.heap.size := by
          have := World.block_lt_of_cell? w _ hc0
          simpa [Addr.add] using this
        refine .inr ⟨b, off, rfl, hlt, fun j hj => ?_⟩
        simp at hj
        have hcj := h4 j (by omega)
        have eg : zs.getD j 0 = zs[j] := by simp [show j < zs.length by omega]
        rw [add_eq9, eg] at hcj
        rw [hcj]
        simp
    · have hb := bounds_i64 (h5 y (List.mem_of_mem_take hy))
      unfold Ir
      omega
theorem ints_of_trod9 {H : Type} {enc : TypeId × Value → H} {W : World} {fuel : Nat} {cs : List Value} {x : DataW H × List MemPlace} (h : DataW.trod enc Try.prog W 0 (fun _ => true) true fuel 30 cs = some x) :
    ∃ A n c l, cs = [.slice A n c] ∧ l.length = n ∧ RdZ W W.heap.size A l ∧ n ≤ c ∧ Irs l := by
  rcases open_ints Try.underlying30 Try.underlying3 (by kernel_rfl) h with ⟨hcs, _⟩ | ⟨a, l, c, zs, hcs, _, hl, hm, hz, _, hcell, hwz⟩
  · exact ⟨none, 0, 0, [], hcs, rfl, .inl rfl, Nat.le_refl _, fun x hx => by simp at hx⟩
  · obtain ⟨ls, h1, h2, h3, h4⟩ := rdZ_of_row9 (w := W) (a := some a) (len := l) (cap := c) (zs := zs) (.inr ⟨a, rfl, hl, hm, by simpa using hz, hcell, hwz⟩)
    exact ⟨some a, l, c, ls, hcs, h1, h2, h3, h4⟩
theorem rdB_of_trod {H : Type} {enc : TypeId × Value → H} {W : World} {base : Nat} {v : Value} {d : DataW H} {p : List MemPlace} (hv : Value.okWide Try.prog W .any base 49 v)
    (h : DataW.Trod enc Try.prog W 0 (fun _ => true) true 49 v d p) :
    ∃ A n c l, v = .slice A n c ∧ l.length = n ∧ S15.RdB W W.heap.size A l ∧ n ≤ c := by
  obtain ⟨A, n, c, rfl⟩ := okWide_slice Try.underlying49 hv
  obtain ⟨fuel, hf⟩ := h
  rcases open_bools Try.underlying49 Try.underlying4 (by kernel_rfl) hf with ⟨hcs, _⟩ | ⟨a, len, cap, B, hcs, _, hl, hm, _, hcell⟩
  · simp [Value.cells] at hcs
    obtain ⟨rfl, rfl, rfl⟩ := hcs
    exact ⟨none, 0, 0, [], rfl, rfl, .inl rfl, Nat.le_refl _⟩
  · simp [Value.cells] at hcs
    obtain ⟨rfl, rfl, rfl⟩ := hcs
    refine ⟨some a, n, c, (List.range n).map B, rfl, by simp, ?_, hl⟩
    by_cases h0 : n = 0
    · subst h0; exact .inl (by simp)
    · obtain ⟨b, off, spot⟩ := a
      have hc0 := hcell 0 (by omega)
      have hspot : spot = none := by simpa [Addr.add] using World.cell?_spot hc0
      subst hspot
      have hlt : b < W.heap.size := by
        have := World.block_lt_of_cell? W _ hc0
        simpa [Addr.add] using this
      refine .inr ⟨b, off, rfl, hlt, fun j hj => ?_⟩
      simp at hj
      have h1 := hcell j (by omega)
      rw [add_eq9] at h1
      rw [h1]
      simp
set_option maxRecDepth 20000 in
theorem rdAc15_of_trod {H : Type} {enc : TypeId × Value → H} {W : World} {base : Nat} {v : Value} {d : DataW H} {p : List MemPlace} (hv : Value.okWide Try.prog W .any base 22 v)
    (h : DataW.Trod enc Try.prog W 0 (fun _ => true) true 22 v d p) :
    ∃ A n c acts, v = .slice A n c ∧ acts.length = n ∧ S15.RdAc W W.heap.size A acts ∧ n ≤ c := by
  obtain ⟨A, n, c, rfl⟩ := okWide_slice Try.underlying22 hv
  obtain ⟨fuel, hf⟩ := h
  rcases open_slice Try.underlying22 hf with ⟨hcs, _⟩ | ⟨a, len, cap, m, k, D, Pl, hcs, _, hl, hm, hmm, _, hr⟩
  · simp [Value.cells] at hcs
    obtain ⟨rfl, rfl, rfl⟩ := hcs
    exact ⟨none, 0, 0, [], rfl, rfl, .inl rfl, Nat.le_refl _⟩
  · simp [Value.cells] at hcs
    obtain ⟨rfl, rfl, rfl⟩ := hcs
    simp only [if_true] at hmm
    subst hmm
    have ce : Try.prog.cellsOf 34 = 2 := by kernel_rfl
    have ci : Try.prog.cellsOf 3 = 1 := by kernel_rfl
    have cn : Try.prog.cellsOf 30 = 1 := by kernel_rfl
    have each : ∀ i, i < m → ∃ q : S15.Ac × (Option Addr × Nat), W.cell? (a.add (i * 2)) = some (.int .i64 q.1.k) ∧ W.cell? (a.add (i * 2 + 1)) = some (.slice q.2.1 q.1.at_.length q.2.2) ∧
        q.1.at_.length ≤ q.2.2 ∧ RdZ W W.heap.size q.2.1 q.1.at_ ∧ Irs q.1.at_ := by
      intro i hi
      obtain ⟨cs', h1, h2⟩ := hr i hi
      rw [ce] at h1
      obtain ⟨_, hlen, hcell⟩ := World.cells?_some h1
      obtain ⟨xs, k2, hk, hxy, _, hxl, hfd⟩ := DataW.trod_struct Try.underlying34 h2
      match xs, hxl, cs', hlen with
      | [z0, z1], _, [v0, v1], _ =>
        have g0 := hfd 0 _ rfl
        have g1 := hfd 1 _ rfl
        simp [ci, cn] at g0 g1
        obtain ⟨x0, e0, _, _⟩ := DataW.trod_int Try.underlying3 g0
        obtain ⟨A1, n1, c1', l1, e1, hl1, hr1, hc1, hz1⟩ := ints_of_trod9 g1
        have c0 := hcell 0 (by omega)
        have c1 := hcell 1 (by omega)
        rw [add_add] at c0 c1
        simp at e0 e1 c0 c1
        subst e0 e1 hl1
        exact ⟨⟨⟨x0, l1⟩, (A1, c1')⟩, c0, c1, hc1, hr1, hz1⟩
    obtain ⟨q, hq⟩ := choose_lt each
    refine ⟨some a, n, m, (List.range n).map fun i => (q i).1, rfl, by simp, ?_, hl⟩
    by_cases h0 : n = 0
    · subst h0; exact .inl (by simp)
    · obtain ⟨b, off, spot⟩ := a
      have hc0 := (hq 0 (by omega)).1
      have hspot : spot = none := by simpa [Addr.add] using World.cell?_spot hc0
      subst hspot
      have hlt : b < W.heap.size := by
        have := World.block_lt_of_cell? W _ hc0
        simpa [Addr.add] using this
      refine .inr ⟨b, off, rfl, hlt, fun j hj => ?_⟩
      simp at hj
      obtain ⟨h1, h2, h3, h4, h5⟩ := hq j (by omega)
      rw [add_eq9] at h1 h2
      simp only [List.getElem_map, List.getElem_range]
      exact ⟨(q j).2.1, _, (q j).2.2, h1, by rw [Nat.add_assoc]; exact h2, rfl, h3, h4, h5⟩
end Go.Proofs.Ytdeojgdjjckoeaa
