/-
  From what the rows tell of a slice of acts (oracle), a slice of arrays of 16 bytes.
-/
import Derived.Test.YtjklgmhaebjjaaaGreatMgOidealMain42
import Derived.Test.YtjklgmhaebjjaaaGreatMgOidealMain45
import Derived.Test.YtjklgmhaebjjaaaGreatMgOidealMain46
import Derived.Deep.Strs
namespace Go.Proofs.YtjklgmhaebjjaaaGreat
open Go.ChangeShapes Go.WideShapes Go.ChangeAt Go.RowKit Go.Deep
open S12
set_option linter.unusedVariables false
set_option linter.unusedSimpArgs false

instance : Inhabited S12.Ac := ⟨⟨0, 0, 0, [], []⟩⟩
theorem add_eq6 (b off j : Nat) : (⟨b, off, none⟩ : Addr).add j = ⟨b, off + j, none⟩ := by
  by_cases hj0 : j = 0
  · subst hj0; simp [Addr.add]
  · simp [Addr.add, hj0]
theorem bytes_of_trod {H : Type} {enc : TypeId × Value → H} {W : World} {fuel : Nat} {cs : List Value} {x : DataW H × List MemPlace} (h : DataW.trod enc Tryz.prog W 0 (fun _ => true) true fuel 22 cs = some x) :
    ∃ A n c l, cs = [.slice A n c] ∧ l.length = n ∧ Rd W W.heap.size A l ∧ n ≤ c := by
  rcases open_ints Tryz.underlying22 Tryz.underlying5 (by kernel_rfl) h with ⟨hcs, _⟩ | ⟨a, l, c, zs, hcs, _, hl, hm, hz, _, hcell, hwz⟩
  · exact ⟨none, 0, 0, [], hcs, rfl, .inl rfl, Nat.le_refl _⟩
  · obtain ⟨ls, h1, h2, h3, h4⟩ := rd_of_row (w := W) (a := some a) (len := l) (cap := c) (zs := zs) (.inr ⟨a, rfl, hl, hm, by simpa using hz, hcell, hwz⟩)
    exact ⟨some a, l, c, ls, hcs, h1, h2, h3⟩
set_option maxRecDepth 20000 in
theorem bytesN_of_trod (ty : TypeId) (n : Nat) (hu : Tryz.prog.underlying ty = some (.array n 5)) (hcs : Tryz.prog.cellsOf ty = n) {H : Type} {enc : TypeId × Value → H} {W : World} {base : Nat} {sp : Nat → Bool} {held : Bool} {fuel : Nat} {cs : List Value} {x : DataW H × List MemPlace}
    (hf : DataW.trod enc Tryz.prog W base sp held fuel ty cs = some x) : ∃ tg : List UInt8, cs = bvs tg ∧ tg.length = n := by
  obtain ⟨xs, m, rfl, hx, hl, hn, hel⟩ := DataW.trod_array hu hf
  have c1 : Tryz.prog.cellsOf 5 = 1 := by kernel_rfl
  rw [hcs] at hl
  rw [c1] at hel
  have hcell : ∀ i, i < n → cs[i]? = some (bv (byteVal cs[i]?)) := by
    intro i hi
    have h1 := hel i hi
    rw [List.getElem?_eq_getElem (show i < xs.length by omega)] at h1
    obtain ⟨x, e1, _, w1⟩ := DataW.trod_int Tryz.underlying5 h1
    rw [Nat.mul_one] at e1
    have e2 : cs[i]? = some (.int .u8 x) := by
      have : ((cs.drop i).take 1)[0]? = some (.int .u8 x) := by rw [e1]; rfl
      rw [List.getElem?_take, if_pos (by omega), List.getElem?_drop] at this
      simpa using this
    have hb := bounds_u8 w1
    rw [e2]
    simp only [byteVal, bv]
    congr 2
    rw [UInt8.toNat_ofNat']
    omega
  refine ⟨(List.range n).map fun i => byteVal cs[i]?, ?_, by simp⟩
  apply List.ext_getElem?
  intro i
  by_cases hi : i < n
  · rw [hcell i hi]
    simp [bvs, hi]
  · rw [List.getElem?_eq_none (by omega), List.getElem?_eq_none (by simp [bvs]; omega)]
theorem in_i64 {n : Int} (h : (Lit.int .i64 n).wf = true) : S12.inI n := ⟨(bounds_i64 h).1, by have := (bounds_i64 h).2; omega⟩
set_option maxRecDepth 20000 in
theorem rdAct_of_trod {H : Type} {enc : TypeId × Value → H} {W : World} {base : Nat} {v : Value} {d : DataW H} {p : List MemPlace} (hv : Value.okWide Tryz.prog W .any base 23 v)
    (h : DataW.Trod enc Tryz.prog W 0 (fun _ => true) true 23 v d p) :
    ∃ A n c acts, v = .slice A n c ∧ acts.length = n ∧ S12.RdAct W W.heap.size A acts ∧ n ≤ c := by
  obtain ⟨A, n, c, rfl⟩ := okWide_slice Tryz.underlying23 hv
  obtain ⟨fuel, hf⟩ := h
  rcases open_slice Tryz.underlying23 hf with ⟨hcs, _⟩ | ⟨a, len, cap, m, k, D, Pl, hcs, _, hl, hm, hmm, _, hr⟩
  · simp [Value.cells] at hcs
    obtain ⟨rfl, rfl, rfl⟩ := hcs
    exact ⟨none, 0, 0, [], rfl, rfl, .inl rfl, Nat.le_refl _⟩
  · simp [Value.cells] at hcs
    obtain ⟨rfl, rfl, rfl⟩ := hcs
    simp only [if_true] at hmm
    subst hmm
    have ce : Tryz.prog.cellsOf 38 = 5 := by kernel_rfl
    have ci : Tryz.prog.cellsOf 3 = 1 := by kernel_rfl
    have cs : Tryz.prog.cellsOf 22 = 1 := by kernel_rfl
    have each : ∀ i, i < m → ∃ q : S12.Ac × (Option Addr × Nat) × (Option Addr × Nat), W.cell? (a.add (i * 5)) = some (.int .i64 q.1.k) ∧ W.cell? (a.add (i * 5 + 1)) = some (.int .i64 q.1.n) ∧ W.cell? (a.add (i * 5 + 2)) = some (.int .i64 q.1.number) ∧ W.cell? (a.add (i * 5 + 3)) = some (.slice q.2.1.1 q.1.key.length q.2.1.2) ∧ W.cell? (a.add (i * 5 + 4)) = some (.slice q.2.2.1 q.1.x.length q.2.2.2) ∧
        q.1.key.length ≤ q.2.1.2 ∧ q.1.x.length ≤ q.2.2.2 ∧ Rd W W.heap.size q.2.1.1 q.1.key ∧ Rd W W.heap.size q.2.2.1 q.1.x ∧ S12.inI q.1.n ∧ S12.inI q.1.number := by
      intro i hi
      obtain ⟨cs', h1, h2⟩ := hr i hi
      rw [ce] at h1
      obtain ⟨_, hlen, hcell⟩ := World.cells?_some h1
      obtain ⟨xs, k2, hk, hxy, _, hxl, hfd⟩ := DataW.trod_struct Tryz.underlying38 h2
      match xs, hxl, cs', hlen with
      | [z0, z1, z2, z3, z4], _, [v0, v1, v2, v3, v4], _ =>
        have g0 := hfd 0 _ rfl
        have g1 := hfd 1 _ rfl
        have g2 := hfd 2 _ rfl
        have g3 := hfd 3 _ rfl
        have g4 := hfd 4 _ rfl
        simp [ci, cs] at g0 g1 g2 g3 g4
        obtain ⟨x0, e0, _, _⟩ := DataW.trod_int Tryz.underlying3 g0
        obtain ⟨x1, e1, _, y1⟩ := DataW.trod_int Tryz.underlying3 g1
        obtain ⟨x2, e2, _, y2⟩ := DataW.trod_int Tryz.underlying3 g2
        obtain ⟨A3, n3, c3', l3, e3, hl3, hr3, hc3⟩ := bytes_of_trod g3
        obtain ⟨A4, n4, c4', l4, e4, hl4, hr4, hc4⟩ := bytes_of_trod g4
        have c0 := hcell 0 (by omega)
        have c1 := hcell 1 (by omega)
        have c2 := hcell 2 (by omega)
        have c3 := hcell 3 (by omega)
        have c4 := hcell 4 (by omega)
        rw [add_add] at c0 c1 c2 c3 c4
        simp at e0 e1 e2 e3 e4 c0 c1 c2 c3 c4
        subst e0 e1 e2 e3 e4 hl3 hl4
        exact ⟨⟨⟨x0, x1, x2, l3, l4⟩, (A3, c3'), (A4, c4')⟩, c0, c1, c2, c3, c4, hc3, hc4, hr3, hr4, in_i64 y1, in_i64 y2⟩
    obtain ⟨q, hq⟩ := choose_lt each
    refine ⟨some a, n, m, (List.range n).map fun i => (q i).1, rfl, by simp, ?_, hl⟩
    by_cases h0 : n = 0
    · subst h0; exact .inl (by simp)
    · obtain ⟨b, off, spot⟩ := a
      have hc0 := (hq 0 (by omega)).1
      have hspot : spot = none := by simpa [Addr.add] using World.cell?_spot hc0
      subst hspot
      have hlt : b < W.heap.size := by
        have := World.block_lt_of_cell? W _ hc0
        simpa [Addr.add] using this
      refine .inr ⟨b, off, rfl, hlt, fun j hj => ?_⟩
      simp at hj
      obtain ⟨h1, h2, h3, h4, h5, h6, h7, h8, h9, h10, h11⟩ := hq j (by omega)
      rw [add_eq6] at h1 h2 h3 h4 h5
      simp only [List.getElem_map, List.getElem_range]
      exact ⟨(q j).2.1.1, _, (q j).2.1.2, (q j).2.2.1, _, (q j).2.2.2, { c0 := h1, c1 := by rw [Nat.add_assoc]; exact h2, c2 := by rw [Nat.add_assoc]; exact h3, c3 := by rw [Nat.add_assoc]; exact h4, c4 := by rw [Nat.add_assoc]; exact h5, rk := h8, lk := rfl, qk := h6, rx := h9, lx := rfl, qx := h7, i1 := h10, i2 := h11 }⟩
end Go.Proofs.YtjklgmhaebjjaaaGreat
