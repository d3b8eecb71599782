/-
  From what the rows tell of a slice of acts (oracle), a slice of arrays of 16 bytes.
-/
import Derived.Test.YtjklgmhaebjjaaaMgOsameMain39
import Derived.Test.YtjklgmhaebjjaaaMgOsameMain37
import Derived.Test.YtjklgmhaebjjaaaMgOsameMain40
import Derived.Deep.Strs
namespace Go.Proofs.Ytjklgmhaebjjaaa
open Go.ChangeShapes Go.WideShapes Go.ChangeAt Go.RowKit Go.Deep
open S12
set_option linter.unusedVariables false
set_option linter.unusedSimpArgs false

instance : Inhabited S12.Ac := ⟨⟨0, 0, 0, [], []⟩⟩
theorem add_eq6 (b off j : Nat) : (⟨b, off, none⟩ : Addr).add j = ⟨b, off + j, none⟩ := by
  by_cases hj0 : j = 0
  · subst hj0; simp [Addr.add]
  · simp [Addr.add, hj0]
theorem bytes_of_trod {H : Type} {enc : TypeId × Value → H} {W : World} {fuel : Nat} {cs : List Value} {x : DataW H × List MemPlace} (h : DataW.trod enc Try.prog W 0 (fun _ => true) true fuel 22 cs = some x) :
    ∃ A n c l, cs = [.slice A n c] ∧ l.length = n ∧ Rd W W.heap.size A l ∧ n ≤ c := by
  rcases open_ints Try.underlying22 Try.underlying5 (by kernel_rfl) h with ⟨hcs, _⟩ | ⟨a, l, c, zs, hcs, _, hl, hm, hz, _, hcell, hwz⟩
  · exact ⟨none, 0, 0, [], hcs, rfl, .inl rfl, Nat.le_refl _⟩
  · obtain ⟨ls, h1, h2, h3, h4⟩ := rd_of_row (w := W) (a := some a) (len := l) (cap := c) (zs := zs) (.inr ⟨a, rfl, hl, hm, by simpa using hz, hcell, hwz⟩)
    exact ⟨some a, l, c, ls, hcs, h1, h2, h3⟩
set_option maxRecDepth 20000 in
theorem bytesN_of_trod (ty : TypeId) (n : Nat) (hu : Try.prog.underlying ty = some (.array n 5)) (hcs : Try.prog.cellsOf ty = n) {H : Type} {enc : TypeId × Value → H} {W : World} {base : Nat} {sp : Nat → Bool} {held : Bool} {fuel : Nat} {cs : List Value} {x : DataW H × List MemPlace}
    (hf : DataW.trod enc Try.prog W base sp held fuel ty cs = some x) : ∃ tg : List UInt8, cs = bvs tg ∧ tg.length = n := by
  obtain ⟨xs, m, rfl, hx, hl, hn, hel⟩ := DataW.trod_array hu hf
  have c1 : Try.prog.cellsOf 5 = 1 := by kernel_rfl
  rw [hcs] at hl
  rw [c1] at hel
  have hcell : ∀ i, i < n → cs[i]? = some (bv (byteVal cs[i]?)) := by
    intro i hi
    have h1 := hel i hi
    rw [List.getElem?_eq_getElem (show i < xs.length by omega)] at h1
    obtain ⟨x, e1, _, w1⟩ := DataW.trod_int Try.underlying5 h1
    rw [Nat.mul_one] at e1
    have e2 : cs[i]? = some (.int .u8 x) := by
      have : ((cs.drop i).take 1)[0]? = some (.int .u8 x) := by rw [e1]; rfl
      rw [List.getElem?_take, if_pos (by omega), List.getElem?_drop] at this
      simpa using this
    have hb := bounds_u8 w1
    rw [e2]
    simp only [byteVal, bv]
    congr 2
    rw [UInt8.toNat_ofNat']
    omega
  refine ⟨(List.range n).map fun i => byteVal cs[i]?, ?_, by simp⟩
  apply List.ext_getElem?
  intro i
  by_cases hi : i < n
  · rw [hcell i hi]
    simp [bvs, hi]
  · rw [List.getElem?_eq_none (by omega), List.getElem?_eq_none (by simp [bvs]; omega)]
theorem in_i64 {n : Int} (h : (Lit.int .i64 n).wf = true) : S12.inI n := ⟨(bounds_i64 h).1, by have := (bounds_i64 h).2; omega⟩
set_option maxRecDepth 20000 in
theorem rdR_of_trod {H : Type} {enc : TypeId × Value → H} {W : World} {base : Nat} {v : Value} {d : DataW H} {p : List MemPlace} (hv : Value.okWide Try.prog W .any base 23 v)
    (h : DataW.Trod enc Try.prog W 0 (fun _ => true) true 23 v d p) :
    ∃ A n c xs, v = .slice A n c ∧ xs.length = n ∧ S12.RdR W W.heap.size A xs ∧ n ≤ c := by
  obtain ⟨A, n, c, rfl⟩ := okWide_slice Try.underlying23 hv
  obtain ⟨fuel, hf⟩ := h
  rcases open_slice Try.underlying23 hf with ⟨hcs, _⟩ | ⟨a, len, cap, m, k, D, Pl, hcs, _, hl, hm, hmm, _, hr⟩
  · simp [Value.cells] at hcs
    obtain ⟨rfl, rfl, rfl⟩ := hcs
    exact ⟨none, 0, 0, [], rfl, rfl, .inl rfl, Nat.le_refl _⟩
  · simp [Value.cells] at hcs
    obtain ⟨rfl, rfl, rfl⟩ := hcs
    simp only [if_true] at hmm
    subst hmm
    have ce : Try.prog.cellsOf 25 = 16 := by kernel_rfl
    have each : ∀ i, i < m → ∃ q : List UInt8, q.length = 16 ∧ ∀ j, j < 16 → W.cell? (a.add (i * 16 + j)) = (bvs q)[j]? := by
      intro i hi
      obtain ⟨cs', h1, h2⟩ := hr i hi
      rw [ce] at h1
      obtain ⟨_, hlen, hcell⟩ := World.cells?_some h1
      obtain ⟨tg, rfl, hl16⟩ := bytesN_of_trod 25 16 u16a ce h2
      refine ⟨tg, hl16, fun j hj => ?_⟩
      have := hcell j (by omega)
      rw [add_add] at this
      exact this
    obtain ⟨q, hq⟩ := choose_lt each
    refine ⟨some a, n, m, (List.range n).map q, rfl, by simp, ?_, hl⟩
    by_cases h0 : n = 0
    · subst h0; exact .inl (by simp)
    · obtain ⟨b, off, spot⟩ := a
      have hc0 := (hq 0 (by omega)).2 0 (by omega)
      have hc00 : (bvs (q 0))[0]? = some (bv ((q 0)[0]'(by have := (hq 0 (by omega)).1; omega))) := by
        have := (hq 0 (by omega)).1
        simp [bvs, show 0 < (q 0).length by omega]
      rw [hc00] at hc0
      have hspot : spot = none := by simpa [Addr.add] using World.cell?_spot hc0
      subst hspot
      have hlt : b < W.heap.size := by
        have := World.block_lt_of_cell? W _ hc0
        simpa [Addr.add] using this
      refine .inr ⟨b, off, rfl, hlt, fun j hj => ?_⟩
      simp at hj
      simp only [List.getElem_map, List.getElem_range]
      refine ⟨(hq j (by omega)).1, fun t u hu => ?_⟩
      have ht : t < 16 := by have h1 := (List.getElem?_eq_some_iff.1 hu).1; have h2 := (hq j (by omega)).1; rw [bvs_length, h2] at h1; exact h1
      have := (hq j (by omega)).2 t ht
      rw [add_eq6] at this
      rw [Nat.add_assoc, this, hu]
end Go.Proofs.Ytjklgmhaebjjaaa
