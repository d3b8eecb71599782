/-
  What the row lists of the table of constants is what the contracts ask.
-/
import Derived.Test.YtbofikghcoalbaaDoorRows
import Derived.Test.YtbofikghcoalbaaDoorSdNv
import Derived.Lib.LaidTab
import Derived.MakeChecks
namespace Go.Proofs.YtbofikghcoalbaaDoor.S4
open Go.RowKit
set_option linter.unusedVariables false

theorem gK : Tryd.prog.globalNamed "turnkey/sha512.constants" = some 1 := by kernel_rfl
theorem gKt : (Tryd.prog.globals[1]?).map (·.type) = some 69 := by kernel_rfl
theorem listed : (Rows.laid_turnkey_sha512_constants : DataW Unit) = Lib.tabData .u64 (K.map fun x => (x.toNat : Int)) := by rfl
theorem kt_of_laid {W : World} (h : laidMetH Tryd.prog [("turnkey/sha512.constants", Rows.laid_turnkey_sha512_constants)] W) : Kt W := by
  rw [MakeChecks.laidMetH_plain _ _ _ (by kernel_rfl), listed] at h
  have ht := Lib.tabIs_of_head gK gKt u80W Tryd.underlying44 (by kernel_rfl) (by kernel_rfl) h
  intro j hj
  have := ht.cell gK j (by simpa [K] using hj)
  rw [this]
  have hjl : j < K.length := hj
  congr 2
  simp [List.getD, hjl]
end Go.Proofs.YtbofikghcoalbaaDoor.S4
