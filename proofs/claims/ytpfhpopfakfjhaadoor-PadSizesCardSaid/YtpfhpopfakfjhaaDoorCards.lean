/-
  DERIVED. GIVEN WITH THE SEED: THE CARDS: each row of YtpfhpopfakfjhaaDoorRows.lean that lists a variable, with what it lists TIED to the program's text (the seventh form; the later family's looks); each row that meets fmt, with fmt's text TOLD by the authors' own Lean function (tested against real Go, not proved from fmt's source: count such statements apart). THE CARD IS WHAT COUNTS. Prove the row's statement (the work); the ties are given (YtpfhpopfakfjhaaDoorTie.lean); close each card by the builder's one call (the guide's Derived/Test/ToyasCard.lean, 'card_holds'). Laid BY PROGRAM, IN A SANDBOX (cutbox-door.mjs). By AI agents, Wed Nov 11 2026. No macro, syntax, notation, axiom, sorry.
-/
import Derived.Test.YtpfhpopfakfjhaaDoorRows
import GoSem.ClaimSeven
namespace Go.Proofs.YtpfhpopfakfjhaaDoor
namespace Rows

/-- THE TIED CARD OF 'turnkeylaw10.PadNames'. -/
def padNamesCard : Claim7 := { stood := { row := padNamesRow, standIns := [], harness := (true, "8a7fdb1d42733586238131a4aab46f1426439f0a02932b3d3f79865d948d98c7"), looks := false }, kinds := [], alts := [], laidByText := true, laidKinds := [.data, .data, .pinned], laidTests := true, laidLooks := .later }
def PadNamesCardSaid : Prop := Claim7.holds Tryd.pinned (.plain (OpenSpec.ofChange padNamesSpec)) padNamesCard

/-- THE TIED CARD OF 'turnkeylaw10.PadStrips'. -/
def padStripsCard : Claim7 := { stood := { row := padStripsRow, standIns := [], harness := (true, "8a7fdb1d42733586238131a4aab46f1426439f0a02932b3d3f79865d948d98c7"), looks := false }, kinds := [], alts := [], laidByText := true, laidKinds := [.data, .data, .pinned], laidTests := true, laidLooks := .later }
def PadStripsCardSaid : Prop := Claim7.holds Tryd.pinned (.plain (OpenSpec.ofChange padStripsSpec)) padStripsCard

/-- THE TIED CARD OF 'turnkeylaw10.PadSizes'. -/
def padSizesCard : Claim7 := { stood := { row := padSizesRow, standIns := [], harness := (true, "8a7fdb1d42733586238131a4aab46f1426439f0a02932b3d3f79865d948d98c7"), looks := false }, kinds := [], alts := [], laidByText := true, laidKinds := [.data, .data, .pinned], laidTests := true, laidLooks := .later }
def PadSizesCardSaid : Prop := Claim7.holds Tryd.pinned (.plain (OpenSpec.ofChange padSizesSpec)) padSizesCard

/-- THE TIED CARD OF 'turnkeylaw10.PadApart'. -/
def padApartCard : Claim7 := { stood := { row := padApartRow, standIns := [], harness := (true, "8a7fdb1d42733586238131a4aab46f1426439f0a02932b3d3f79865d948d98c7"), looks := false }, kinds := [], alts := [], laidByText := true, laidKinds := [.data, .data, .pinned], laidTests := true, laidLooks := .later }
def PadApartCardSaid : Prop := Claim7.holds Tryd.pinned (.plain (OpenSpec.ofChange padApartSpec)) padApartCard

/-- THE SECOND FORM's CARD OF 'turnkeylaw10.PadNames'. -/
def padNamesUptoCard : Claim7 := { stood := { row := padNamesUptoRow, standIns := [], harness := (true, "8a7fdb1d42733586238131a4aab46f1426439f0a02932b3d3f79865d948d98c7"), looks := false }, kinds := [], alts := [], laidByText := true, laidKinds := [.data, .data, .pinned], laidTests := true, laidLooks := .later }
def PadNamesUptoCardSaid : Prop := Claim7.holds Tryd.pinned (.plain (OpenSpec.upto padNamesSpec)) padNamesUptoCard

/-- THE SECOND FORM's CARD OF 'turnkeylaw10.PadStrips'. -/
def padStripsUptoCard : Claim7 := { stood := { row := padStripsUptoRow, standIns := [], harness := (true, "8a7fdb1d42733586238131a4aab46f1426439f0a02932b3d3f79865d948d98c7"), looks := false }, kinds := [], alts := [], laidByText := true, laidKinds := [.data, .data, .pinned], laidTests := true, laidLooks := .later }
def PadStripsUptoCardSaid : Prop := Claim7.holds Tryd.pinned (.plain (OpenSpec.upto padStripsSpec)) padStripsUptoCard

/-- THE SECOND FORM's CARD OF 'turnkeylaw10.PadSizes'. -/
def padSizesUptoCard : Claim7 := { stood := { row := padSizesUptoRow, standIns := [], harness := (true, "8a7fdb1d42733586238131a4aab46f1426439f0a02932b3d3f79865d948d98c7"), looks := false }, kinds := [], alts := [], laidByText := true, laidKinds := [.data, .data, .pinned], laidTests := true, laidLooks := .later }
def PadSizesUptoCardSaid : Prop := Claim7.holds Tryd.pinned (.plain (OpenSpec.upto padSizesSpec)) padSizesUptoCard

/-- THE SECOND FORM's CARD OF 'turnkeylaw10.PadApart'. -/
def padApartUptoCard : Claim7 := { stood := { row := padApartUptoRow, standIns := [], harness := (true, "8a7fdb1d42733586238131a4aab46f1426439f0a02932b3d3f79865d948d98c7"), looks := false }, kinds := [], alts := [], laidByText := true, laidKinds := [.data, .data, .pinned], laidTests := true, laidLooks := .later }
def PadApartUptoCardSaid : Prop := Claim7.holds Tryd.pinned (.plain (OpenSpec.upto padApartSpec)) padApartUptoCard
end Rows
end Go.Proofs.YtpfhpopfakfjhaaDoor
