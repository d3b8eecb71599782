/-
  The table of units: what it holds, and that it stays.
-/
import Derived.Test.YtpfhpopfakfjhaaDoorGrow
import Derived.Lib.LaidTab
import Derived.MakeChecks
import Derived.Stop.LaidErr
namespace Go.Proofs.YtpfhpopfakfjhaaDoor.S10
open Go.RowKit
set_option linter.unusedVariables false
set_option linter.unusedSimpArgs false

/-- The two units lie in their variable. -/
def Un (w : World) : Prop := w.cell? ⟨0, 0, none⟩ = some (.int .i64 16) ∧ w.cell? ⟨0, 1, none⟩ = some (.int .i64 32)
theorem Un.lt {w : World} (h : Un w) : 0 < w.heap.size := by
  rcases Nat.lt_or_ge 0 w.heap.size with hb | hb
  · exact hb
  · have h1 := h.1
    have hn : w.heap[(0 : Nat)]? = none := Array.getElem?_eq_none hb
    unfold World.cell? at h1
    simp only [hn] at h1
    cases h1
theorem Un.grow {w w' : World} (h : Un w) (hg : Grown w w') : Un w' :=
  ⟨(hg.cell (p := ⟨0, 0, none⟩) h.lt).trans h.1, (hg.cell (p := ⟨0, 1, none⟩) h.lt).trans h.2⟩

theorem gU : Tryd.prog.globalNamed "turnkey/pad.units" = some 0 := by kernel_rfl
theorem gUt : (Tryd.prog.globals[(0 : Nat)]?).map (·.type) = some 41 := by kernel_rfl
theorem u2I : Tryd.prog.underlying 41 = some (.array 2 3) := by kernel_rfl
theorem listedU : (Rows.laid_turnkey_pad_units : DataW Unit) = Lib.tabData .i64 [16, 32] := by rfl
theorem un_of_laid {W : World} (h : laidMetH Tryd.prog [("unicode/utf8.acceptRanges", Rows.laid_unicode_utf8_acceptRanges), ("turnkey/pad.units", Rows.laid_turnkey_pad_units), ("unicode/utf8.first", Rows.laid_unicode_utf8_first)] W) : Un W := by
  rw [MakeChecks.laidMetH_plain _ _ _ (by kernel_rfl), listedU] at h
  have h := laidMet.tail h
  have ht := Lib.tabIs_of_head gU gUt u2I Tryd.underlying3 (by kernel_rfl) (by kernel_rfl) h
  exact ⟨ht.cell gU 0 (by decide), ht.cell gU 1 (by decide)⟩
end Go.Proofs.YtpfhpopfakfjhaaDoor.S10
