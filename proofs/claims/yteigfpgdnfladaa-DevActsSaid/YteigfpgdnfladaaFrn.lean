/-
  An array of bytes that came in.
-/
import Derived.Test.YteigfpgdnfladaaFrm
namespace Go.Proofs.Yteigfpgdnfladaa
open Go.ChangeShapes Go.WideShapes Go.ChangeAt Go.RowKit
set_option linter.unusedVariables false

def byteVal : Option Value → UInt8
  | some (.int _ n) => UInt8.ofNat n.toNat
  | _ => 0
set_option maxRecDepth 20000 in
theorem open_bytesN (ty : TypeId) (n : Nat) (hu : Try.prog.underlying ty = some (.array n 5)) (hcs : Try.prog.cellsOf ty = n) (hn0 : 1 < n) {H : Type} {enc : TypeId × Value → H} {W : World} {base b0 : Nat} {sp : Nat → Bool} {held : Bool} {v : Value} {d : DataW H} {p : List MemPlace} (_hv : Value.okWide Try.prog W .any b0 ty v)
    (h : DataW.Trod enc Try.prog W base sp held ty v d p) : ∃ tg : List UInt8, v = .agg (bvs tg).toArray ∧ tg.length = n := by
  obtain ⟨fuel, hf⟩ := h
  obtain ⟨xs, m, rfl, hx, hl, hn, hel⟩ := DataW.trod_array hu hf
  have c1 : Try.prog.cellsOf 5 = 1 := by kernel_rfl
  rw [hcs] at hl
  rw [c1] at hel
  have hcell : ∀ i, i < n → v.cells.toList[i]? = some (bv (byteVal v.cells.toList[i]?)) := by
    intro i hi
    have h1 := hel i hi
    rw [List.getElem?_eq_getElem (show i < xs.length by omega)] at h1
    obtain ⟨x, e1, _, w1⟩ := DataW.trod_int Try.underlying5 h1
    rw [Nat.mul_one] at e1
    have e2 : v.cells.toList[i]? = some (.int .u8 x) := by
      have : ((v.cells.toList.drop i).take 1)[0]? = some (.int .u8 x) := by rw [e1]; rfl
      rw [List.getElem?_take, if_pos (by omega), List.getElem?_drop] at this
      simpa using this
    have hb := bounds_u8 w1
    rw [e2]
    simp only [byteVal, bv]
    congr 2
    rw [UInt8.toNat_ofNat']
    omega
  have hv : v.cells.toList = bvs ((List.range n).map fun i => byteVal v.cells.toList[i]?) := by
    apply List.ext_getElem?
    intro i
    by_cases hi : i < n
    · rw [hcell i hi]
      simp [bvs, hi]
    · rw [List.getElem?_eq_none (by omega), List.getElem?_eq_none (by simp [bvs]; omega)]
  refine ⟨(List.range n).map fun i => byteVal v.cells.toList[i]?, ?_, by simp⟩
  cases v with
  | agg cs =>
    simp only [Value.cells] at hv ⊢
    congr 1
    apply Array.ext'
    exact hv
  | _ => simp [Value.cells] at hl; omega
end Go.Proofs.Yteigfpgdnfladaa
