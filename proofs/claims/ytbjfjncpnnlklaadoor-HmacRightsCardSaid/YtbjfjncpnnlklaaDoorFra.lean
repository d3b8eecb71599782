/-
  An array of 32 bytes that came in.
-/
import Derived.Test.YtbjfjncpnnlklaaDoorFrm
namespace Go.Proofs.YtbjfjncpnnlklaaDoor
open Go.ChangeShapes Go.WideShapes Go.ChangeAt Go.RowKit
set_option linter.unusedVariables false

def byteOf : Option Value → UInt8
  | some (.int _ n) => UInt8.ofNat n.toNat
  | _ => 0
theorem open_bytes32 {H : Type} {enc : TypeId × Value → H} {W : World} {base b0 : Nat} {sp : Nat → Bool} {held : Bool} {v : Value} {d : DataW H} {p : List MemPlace} (_hv : Value.okWide Tryd.prog W .any b0 28 v)
    (h : DataW.Trod enc Tryd.prog W base sp held 28 v d p) : ∃ tg : List UInt8, v = .agg (bvs tg).toArray ∧ tg.length = 32 := by
  obtain ⟨fuel, hf⟩ := h
  obtain ⟨xs, m, rfl, hx, hl, hn, hel⟩ := DataW.trod_array (show Tryd.prog.underlying 28 = some (.array 32 5) by kernel_rfl) hf
  have c1 : Tryd.prog.cellsOf 5 = 1 := by kernel_rfl
  have c2 : Tryd.prog.cellsOf 28 = 32 := by kernel_rfl
  rw [c2] at hl
  rw [c1] at hel
  have hcell : ∀ i, i < 32 → v.cells.toList[i]? = some (bv (byteOf v.cells.toList[i]?)) := by
    intro i hi
    have h1 := hel i hi
    rw [List.getElem?_eq_getElem (show i < xs.length by omega)] at h1
    obtain ⟨n, e1, _, w1⟩ := DataW.trod_int Tryd.underlying5 h1
    rw [Nat.mul_one] at e1
    have e2 : v.cells.toList[i]? = some (.int .u8 n) := by
      have : ((v.cells.toList.drop i).take 1)[0]? = some (.int .u8 n) := by rw [e1]; rfl
      rw [List.getElem?_take, if_pos (by omega), List.getElem?_drop] at this
      simpa using this
    have hb := bounds_u8 w1
    rw [e2]
    simp only [byteOf, bv]
    congr 2
    rw [UInt8.toNat_ofNat']
    omega
  have hv : v.cells.toList = bvs ((List.range 32).map fun i => byteOf v.cells.toList[i]?) := by
    apply List.ext_getElem?
    intro i
    by_cases hi : i < 32
    · rw [hcell i hi]
      simp [bvs, hi]
    · rw [List.getElem?_eq_none (by omega), List.getElem?_eq_none (by simp [bvs]; omega)]
  refine ⟨(List.range 32).map fun i => byteOf v.cells.toList[i]?, ?_, by simp⟩
  cases v with
  | agg cs =>
    simp only [Value.cells] at hv ⊢
    congr 1
    apply Array.ext'
    exact hv
  | _ => simp [Value.cells] at hl
end Go.Proofs.YtbjfjncpnnlklaaDoor
