/-
  An array of bytes that came in. Rows of bytes that came in (open_rows, for every count and length).
-/
import Derived.Test.YtjklgmhaebjjaaaGreatMgOidealMain45
namespace Go.Proofs.YtjklgmhaebjjaaaGreat
open Go.ChangeShapes Go.WideShapes Go.ChangeAt Go.RowKit
set_option linter.unusedVariables false

def byteVal : Option Value → UInt8
  | some (.int _ n) => UInt8.ofNat n.toNat
  | _ => 0
set_option maxRecDepth 20000 in
theorem open_bytesN (ty : TypeId) (n : Nat) (hu : Tryz.prog.underlying ty = some (.array n 5)) (hcs : Tryz.prog.cellsOf ty = n) (hn0 : 1 < n) {H : Type} {enc : TypeId × Value → H} {W : World} {base b0 : Nat} {sp : Nat → Bool} {held : Bool} {v : Value} {d : DataW H} {p : List MemPlace} (_hv : Value.okWide Tryz.prog W .any b0 ty v)
    (h : DataW.Trod enc Tryz.prog W base sp held ty v d p) : ∃ tg : List UInt8, v = .agg (bvs tg).toArray ∧ tg.length = n := by
  obtain ⟨fuel, hf⟩ := h
  obtain ⟨xs, m, rfl, hx, hl, hn, hel⟩ := DataW.trod_array hu hf
  have c1 : Tryz.prog.cellsOf 5 = 1 := by kernel_rfl
  rw [hcs] at hl
  rw [c1] at hel
  have hcell : ∀ i, i < n → v.cells.toList[i]? = some (bv (byteVal v.cells.toList[i]?)) := by
    intro i hi
    have h1 := hel i hi
    rw [List.getElem?_eq_getElem (show i < xs.length by omega)] at h1
    obtain ⟨x, e1, _, w1⟩ := DataW.trod_int Tryz.underlying5 h1
    rw [Nat.mul_one] at e1
    have e2 : v.cells.toList[i]? = some (.int .u8 x) := by
      have : ((v.cells.toList.drop i).take 1)[0]? = some (.int .u8 x) := by rw [e1]; rfl
      rw [List.getElem?_take, if_pos (by omega), List.getElem?_drop] at this
      simpa using this
    have hb := bounds_u8 w1
    rw [e2]
    simp only [byteVal, bv]
    congr 2
    rw [UInt8.toNat_ofNat']
    omega
  have hv : v.cells.toList = bvs ((List.range n).map fun i => byteVal v.cells.toList[i]?) := by
    apply List.ext_getElem?
    intro i
    by_cases hi : i < n
    · rw [hcell i hi]
      simp [bvs, hi]
    · rw [List.getElem?_eq_none (by omega), List.getElem?_eq_none (by simp [bvs]; omega)]
  refine ⟨(List.range n).map fun i => byteVal v.cells.toList[i]?, ?_, by simp⟩
  cases v with
  | agg cs =>
    simp only [Value.cells] at hv ⊢
    congr 1
    apply Array.ext'
    exact hv
  | _ => simp [Value.cells] at hl; omega
set_option maxRecDepth 20000 in theorem open_bytes16 {H : Type} {enc : TypeId × Value → H} {W : World} {base b0 : Nat} {sp : Nat → Bool} {held : Bool} {v : Value} {d : DataW H} {p : List MemPlace} (hv : Value.okWide Tryz.prog W .any b0 62 v) (h : DataW.Trod enc Tryz.prog W base sp held 62 v d p) : ∃ tg : List UInt8, v = .agg (bvs tg).toArray ∧ tg.length = 16 := open_bytesN 62 16 (by kernel_rfl) (by kernel_rfl) (by omega) hv h
set_option maxRecDepth 20000 in theorem open_bytes32 {H : Type} {enc : TypeId × Value → H} {W : World} {base b0 : Nat} {sp : Nat → Bool} {held : Bool} {v : Value} {d : DataW H} {p : List MemPlace} (hv : Value.okWide Tryz.prog W .any b0 51 v) (h : DataW.Trod enc Tryz.prog W base sp held 51 v d p) : ∃ tg : List UInt8, v = .agg (bvs tg).toArray ∧ tg.length = 32 := open_bytesN 51 32 (by kernel_rfl) (by kernel_rfl) (by omega) hv h
set_option maxRecDepth 20000 in theorem open_bytes64 {H : Type} {enc : TypeId × Value → H} {W : World} {base b0 : Nat} {sp : Nat → Bool} {held : Bool} {v : Value} {d : DataW H} {p : List MemPlace} (hv : Value.okWide Tryz.prog W .any b0 43 v) (h : DataW.Trod enc Tryz.prog W base sp held 43 v d p) : ∃ tg : List UInt8, v = .agg (bvs tg).toArray ∧ tg.length = 64 := open_bytesN 43 64 (by kernel_rfl) (by kernel_rfl) (by omega) hv h
end Go.Proofs.YtjklgmhaebjjaaaGreat
namespace Go.Proofs.YtjklgmhaebjjaaaGreat
open Go.ChangeShapes Go.WideShapes Go.ChangeAt Go.RowKit
set_option linter.unusedVariables false

set_option maxRecDepth 20000 in
theorem open_rows (ty ety : TypeId) (n m : Nat) (hu : Tryz.prog.underlying ty = some (.array n ety)) (hue : Tryz.prog.underlying ety = some (.array m 5)) (hcs : Tryz.prog.cellsOf ty = n * m) (hce : Tryz.prog.cellsOf ety = m) (hm0 : 0 < m) (hn0 : 1 < n * m) {H : Type} {enc : TypeId × Value → H} {W : World} {base b0 : Nat} {sp : Nat → Bool} {held : Bool} {v : Value} {d : DataW H} {p : List MemPlace} (_hv : Value.okWide Tryz.prog W .any b0 ty v)
    (h : DataW.Trod enc Tryz.prog W base sp held ty v d p) : ∃ tg : List UInt8, v = .agg (bvs tg).toArray ∧ tg.length = n * m := by
  obtain ⟨fuel, hf⟩ := h
  obtain ⟨xs, m', rfl, hx, hl, hn, hel⟩ := DataW.trod_array hu hf
  have c1 : Tryz.prog.cellsOf 5 = 1 := by kernel_rfl
  rw [hcs] at hl
  rw [hce] at hel
  have hcell : ∀ i, i < n * m → v.cells.toList[i]? = some (bv (byteVal v.cells.toList[i]?)) := by
    intro i hi
    have hq : i / m < n := (Nat.div_lt_iff_lt_mul hm0).2 hi
    have hr : i % m < m := Nat.mod_lt _ hm0
    have h1 := hel (i / m) hq
    rw [List.getElem?_eq_getElem (show i / m < xs.length by omega)] at h1
    obtain ⟨ys, m2, _, _, hl2, hn2, hel2⟩ := DataW.trod_array hue h1
    have h2 := hel2 (i % m) hr
    rw [List.getElem?_eq_getElem (show i % m < ys.length by omega), c1] at h2
    obtain ⟨x, e1, _, w1⟩ := DataW.trod_int Tryz.underlying5 h2
    rw [Nat.mul_one] at e1
    have e2 : v.cells.toList[i]? = some (.int .u8 x) := by
      have : (((((v.cells.toList.drop (i / m * m)).take m).drop (i % m)).take 1))[0]? = some (.int .u8 x) := by rw [e1]; rfl
      rw [List.getElem?_take, if_pos (by omega), List.getElem?_drop, List.getElem?_take, if_pos (by omega), List.getElem?_drop] at this
      have ei : i / m * m + (i % m + 0) = i := by have := Nat.div_add_mod i m; rw [Nat.mul_comm] at this; omega
      rwa [ei] at this
    have hb := bounds_u8 w1
    rw [e2]
    simp only [byteVal, bv]
    congr 2
    rw [UInt8.toNat_ofNat']
    omega
  have hv : v.cells.toList = bvs ((List.range (n * m)).map fun i => byteVal v.cells.toList[i]?) := by
    apply List.ext_getElem?
    intro i
    by_cases hi : i < n * m
    · rw [hcell i hi]
      simp [bvs, hi]
    · rw [List.getElem?_eq_none (by omega), List.getElem?_eq_none (by simp [bvs]; omega)]
  refine ⟨(List.range (n * m)).map fun i => byteVal v.cells.toList[i]?, ?_, by simp⟩
  cases v with
  | agg cs =>
    simp only [Value.cells] at hv ⊢
    congr 1
    apply Array.ext'
    exact hv
  | _ => simp [Value.cells] at hl; omega
end Go.Proofs.YtjklgmhaebjjaaaGreat
