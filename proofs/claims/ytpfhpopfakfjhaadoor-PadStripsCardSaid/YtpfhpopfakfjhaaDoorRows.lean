/-
  NARROWER THAN 'FOR EVERY INPUT', by the rows' own cells (each row's printed sentence says how): PadNames: laid · PadStrips: laid · PadSizes: laid · PadApart: laid.
  DERIVED. THE GIVEN ROWS OF THIS SEAT. 4 by the template 'for every input the law returns true; each argument reads behind the call as it read before'; 0 by the template 'total and deterministic' (their statements: YtpfhpopfakfjhaaDoorTotals.lean).
  GIVEN WITH THE SEED: the statements are not yours to turn. If you find one false, say at which input.
  Laid BY PROGRAM, IN A SANDBOX (cutbox-rows.mjs): the forced cells as the released guide's own fill.sh prints them over the translation 87cf85577a6d58ae… (all of the seat's roots in one cut). By AI agents, Wed Nov 11 2026. No macro, syntax, notation, axiom, sorry.
-/
import Derived.Test.YtpfhpopfakfjhaaDoorChecked
import GoSem.PinnedTables
import GoSem.Claim
import GoSem.ClaimJoined
import GoSem.ClaimMapViews
import Derived.JoinedTies
import Derived.KernelRfl
namespace Go.Proofs.YtpfhpopfakfjhaaDoor
/- THE CELL 'sum', in the pinned program and in every row, IS THE sha256 OF THE DUMP (.gsa) THAT YtpfhpopfakfjhaaDoorProg.lean LOADS. Nothing in Lean hashes anything: it is a label: what it is worth is what the hold of that sum in a sandbox is worth. -/
noncomputable def Tryd.pinned : Pinned := { name := "ytpfhpopfakfjhaadoor", sum := "87cf85577a6d58ae42df8b399e6bf56b387720148bbc9172679d15cedc39e173", checked := Tryd.checked }
namespace Rows
def none {H : Type} : Left H := { results := [], args := [] }

/- WHAT THE LISTED PACKAGE-LEVEL VARIABLES READ AS WHEN THE CALL BEGINS. Each datum BY PROGRAM (the guide's laid-datum.mjs) off the statement by which the dump's own 'gosem.cut.vars' lays the variable. In a bare row this is a premise. The card (YtpfhpopfakfjhaaDoorCards.lean) ties it to the program's text. -/
def laid_unicode_utf8_acceptRanges {H : Type} : DataW H := .agg [.agg [.lit (.int .u8 128), .lit (.int .u8 191)], .agg [.lit (.int .u8 160), .lit (.int .u8 191)], .agg [.lit (.int .u8 128), .lit (.int .u8 159)], .agg [.lit (.int .u8 144), .lit (.int .u8 191)], .agg [.lit (.int .u8 128), .lit (.int .u8 143)], .agg [.lit (.int .u8 0), .lit (.int .u8 0)], .agg [.lit (.int .u8 0), .lit (.int .u8 0)], .agg [.lit (.int .u8 0), .lit (.int .u8 0)], .agg [.lit (.int .u8 0), .lit (.int .u8 0)], .agg [.lit (.int .u8 0), .lit (.int .u8 0)], .agg [.lit (.int .u8 0), .lit (.int .u8 0)], .agg [.lit (.int .u8 0), .lit (.int .u8 0)], .agg [.lit (.int .u8 0), .lit (.int .u8 0)], .agg [.lit (.int .u8 0), .lit (.int .u8 0)], .agg [.lit (.int .u8 0), .lit (.int .u8 0)], .agg [.lit (.int .u8 0), .lit (.int .u8 0)]]
def laid_turnkey_pad_units {H : Type} : DataW H := .agg [.lit (.int .i64 16), .lit (.int .i64 32)]
/-- One of Go's own tables, pinned by name: the form's constant. -/
def laid_unicode_utf8_first : DataW Unit := Go.Pinned.utf8First

/-- 'turnkeylaw10.PadNames': WHATEVER THE INPUT: true; the input reads as it did. -/
def padNamesSpec : ChangeSpec := { name := "padNames", fn := fun _ => fun
  | [d1, d2, d3] => { results := [.lit (.bool true)], args := [d1, d2, d3] }
  | _ => none }
def padNamesRow : OpenClaim := { program := "ytpfhpopfakfjhaadoor", sum := "87cf85577a6d58ae42df8b399e6bf56b387720148bbc9172679d15cedc39e173", func := "turnkey/turnkeylaw10.PadNames", spec := "padNames", inPlace := ["internal/bytealg.IndexByteString", "internal/bytealg.IndexString"], named := ["turnkey/pad.units", "unicode/utf8.first", "unicode/utf8.acceptRanges", "internal/bytealg.MaxLen"], apart := false, laid := [("unicode/utf8.acceptRanges", laid_unicode_utf8_acceptRanges), ("turnkey/pad.units", laid_turnkey_pad_units), ("unicode/utf8.first", laid_unicode_utf8_first)] }
def PadNamesSaid : Prop := padNamesRow.holds Tryd.pinned (OpenSpec.ofChange padNamesSpec)

/-- ITS FALSE NEIGHBOUR: 'it returns false'. Refute it at one input. -/
def padNamesWrong : ChangeSpec := { name := "padNames", fn := fun _ => fun
  | [d1, d2, d3] => { results := [.lit (.bool false)], args := [d1, d2, d3] }
  | _ => none }
def PadNamesWrongFalsely : Prop := padNamesRow.holds Tryd.pinned (OpenSpec.ofChange padNamesWrong)

/-- 'turnkeylaw10.PadStrips': WHATEVER THE INPUT: true; the input reads as it did. -/
def padStripsSpec : ChangeSpec := { name := "padStrips", fn := fun _ => fun
  | [d] => { results := [.lit (.bool true)], args := [d] }
  | _ => none }
def padStripsRow : OpenClaim := { program := "ytpfhpopfakfjhaadoor", sum := "87cf85577a6d58ae42df8b399e6bf56b387720148bbc9172679d15cedc39e173", func := "turnkey/turnkeylaw10.PadStrips", spec := "padStrips", inPlace := ["internal/bytealg.IndexByteString", "internal/bytealg.IndexString"], named := ["turnkey/pad.units", "unicode/utf8.first", "unicode/utf8.acceptRanges", "internal/bytealg.MaxLen"], apart := false, laid := [("unicode/utf8.acceptRanges", laid_unicode_utf8_acceptRanges), ("turnkey/pad.units", laid_turnkey_pad_units), ("unicode/utf8.first", laid_unicode_utf8_first)] }
def PadStripsSaid : Prop := padStripsRow.holds Tryd.pinned (OpenSpec.ofChange padStripsSpec)

/-- ITS FALSE NEIGHBOUR: 'it returns false'. Refute it at one input. -/
def padStripsWrong : ChangeSpec := { name := "padStrips", fn := fun _ => fun
  | [d] => { results := [.lit (.bool false)], args := [d] }
  | _ => none }
def PadStripsWrongFalsely : Prop := padStripsRow.holds Tryd.pinned (OpenSpec.ofChange padStripsWrong)

/-- 'turnkeylaw10.PadSizes': WHATEVER THE INPUT: true; the input reads as it did. -/
def padSizesSpec : ChangeSpec := { name := "padSizes", fn := fun _ => fun
  | [d1, d2, d3] => { results := [.lit (.bool true)], args := [d1, d2, d3] }
  | _ => none }
def padSizesRow : OpenClaim := { program := "ytpfhpopfakfjhaadoor", sum := "87cf85577a6d58ae42df8b399e6bf56b387720148bbc9172679d15cedc39e173", func := "turnkey/turnkeylaw10.PadSizes", spec := "padSizes", inPlace := ["internal/bytealg.IndexByteString", "internal/bytealg.IndexString"], named := ["turnkey/pad.units", "unicode/utf8.first", "unicode/utf8.acceptRanges", "internal/bytealg.MaxLen"], apart := false, laid := [("unicode/utf8.acceptRanges", laid_unicode_utf8_acceptRanges), ("turnkey/pad.units", laid_turnkey_pad_units), ("unicode/utf8.first", laid_unicode_utf8_first)] }
def PadSizesSaid : Prop := padSizesRow.holds Tryd.pinned (OpenSpec.ofChange padSizesSpec)

/-- ITS FALSE NEIGHBOUR: 'it returns false'. Refute it at one input. -/
def padSizesWrong : ChangeSpec := { name := "padSizes", fn := fun _ => fun
  | [d1, d2, d3] => { results := [.lit (.bool false)], args := [d1, d2, d3] }
  | _ => none }
def PadSizesWrongFalsely : Prop := padSizesRow.holds Tryd.pinned (OpenSpec.ofChange padSizesWrong)

/-- 'turnkeylaw10.PadApart': WHATEVER THE INPUT: true; the input reads as it did. -/
def padApartSpec : ChangeSpec := { name := "padApart", fn := fun _ => fun
  | [d1, d2] => { results := [.lit (.bool true)], args := [d1, d2] }
  | _ => none }
def padApartRow : OpenClaim := { program := "ytpfhpopfakfjhaadoor", sum := "87cf85577a6d58ae42df8b399e6bf56b387720148bbc9172679d15cedc39e173", func := "turnkey/turnkeylaw10.PadApart", spec := "padApart", inPlace := ["internal/bytealg.IndexByteString", "internal/bytealg.IndexString"], named := ["turnkey/pad.units", "unicode/utf8.first", "unicode/utf8.acceptRanges", "internal/bytealg.MaxLen"], apart := false, laid := [("unicode/utf8.acceptRanges", laid_unicode_utf8_acceptRanges), ("turnkey/pad.units", laid_turnkey_pad_units), ("unicode/utf8.first", laid_unicode_utf8_first)] }
def PadApartSaid : Prop := padApartRow.holds Tryd.pinned (OpenSpec.ofChange padApartSpec)

/-- ITS FALSE NEIGHBOUR: 'it returns false'. Refute it at one input. -/
def padApartWrong : ChangeSpec := { name := "padApart", fn := fun _ => fun
  | [d1, d2] => { results := [.lit (.bool false)], args := [d1, d2] }
  | _ => none }
def PadApartWrongFalsely : Prop := padApartRow.holds Tryd.pinned (OpenSpec.ofChange padApartWrong)

/- THE SECOND FORM. 'bulk': how many values and letters a reading holds, each counted each time it is reached (what is shared counts as often as it is met; a slice's spare places count too). A statement '..UptoSaid' is the law's where the arguments, and the package variables that the reading takes, are together of bulk at most 1048576: NARROWER than '..Said'. Prove '..Said' where nothing that the law and all that it calls make is longer than what came in: it says more and counts as full. Else prove '..UptoSaid'. A law counts once. -/
mutual
def uptoBulk {H : Type} : DataW H → Nat
  | .lit (.string bytes) => bytes.length + 1
  | .lit _ => 1
  | .nil => 1
  | .ptr d => uptoBulk d + 1
  | .slice elems spare => uptoBulkAll elems + uptoBulkAll spare + 1
  | .agg parts => uptoBulkAll parts + 1
  | .iface _ d => uptoBulk d + 1
  | .map entries => uptoBulkEntries entries + 1
  | .held _ => 1
def uptoBulkAll {H : Type} : List (DataW H) → Nat
  | [] => 0
  | d :: r => uptoBulk d + uptoBulkAll r
def uptoBulkEntries {H : Type} : List (Lit × DataW H) → Nat
  | [] => 0
  | x :: r => uptoBulkEntry x + uptoBulkEntries r
def uptoBulkEntry {H : Type} : Lit × DataW H → Nat
  | (.string bytes, d) => bytes.length + uptoBulk d + 1
  | (_, d) => uptoBulk d + 1
 end
def uptoSmall : (H : Type) → List (DataW H) → Bool := fun _ ds => decide (uptoBulkAll ds ≤ 1048576)
def OpenSpec.upto (s : _root_.Go.ChangeSpec) : _root_.Go.OpenSpec := { _root_.Go.OpenSpec.ofChange s with cond := some uptoSmall }

/-- 'turnkeylaw10.PadNames', WHERE WHAT IT READS IS OF BULK AT MOST 1048576: true; the input reads as it did. -/
def padNamesUptoRow : OpenClaim := { program := "ytpfhpopfakfjhaadoor", sum := "87cf85577a6d58ae42df8b399e6bf56b387720148bbc9172679d15cedc39e173", func := "turnkey/turnkeylaw10.PadNames", spec := "padNames", inPlace := ["internal/bytealg.IndexByteString", "internal/bytealg.IndexString"], named := ["turnkey/pad.units", "unicode/utf8.first", "unicode/utf8.acceptRanges", "internal/bytealg.MaxLen"], apart := false, laid := [("unicode/utf8.acceptRanges", laid_unicode_utf8_acceptRanges), ("turnkey/pad.units", laid_turnkey_pad_units), ("unicode/utf8.first", laid_unicode_utf8_first)], narrowed := true }
def PadNamesUptoSaid : Prop := padNamesUptoRow.holds Tryd.pinned (OpenSpec.upto padNamesSpec)

/-- 'turnkeylaw10.PadStrips', WHERE WHAT IT READS IS OF BULK AT MOST 1048576: true; the input reads as it did. -/
def padStripsUptoRow : OpenClaim := { program := "ytpfhpopfakfjhaadoor", sum := "87cf85577a6d58ae42df8b399e6bf56b387720148bbc9172679d15cedc39e173", func := "turnkey/turnkeylaw10.PadStrips", spec := "padStrips", inPlace := ["internal/bytealg.IndexByteString", "internal/bytealg.IndexString"], named := ["turnkey/pad.units", "unicode/utf8.first", "unicode/utf8.acceptRanges", "internal/bytealg.MaxLen"], apart := false, laid := [("unicode/utf8.acceptRanges", laid_unicode_utf8_acceptRanges), ("turnkey/pad.units", laid_turnkey_pad_units), ("unicode/utf8.first", laid_unicode_utf8_first)], narrowed := true }
def PadStripsUptoSaid : Prop := padStripsUptoRow.holds Tryd.pinned (OpenSpec.upto padStripsSpec)

/-- 'turnkeylaw10.PadSizes', WHERE WHAT IT READS IS OF BULK AT MOST 1048576: true; the input reads as it did. -/
def padSizesUptoRow : OpenClaim := { program := "ytpfhpopfakfjhaadoor", sum := "87cf85577a6d58ae42df8b399e6bf56b387720148bbc9172679d15cedc39e173", func := "turnkey/turnkeylaw10.PadSizes", spec := "padSizes", inPlace := ["internal/bytealg.IndexByteString", "internal/bytealg.IndexString"], named := ["turnkey/pad.units", "unicode/utf8.first", "unicode/utf8.acceptRanges", "internal/bytealg.MaxLen"], apart := false, laid := [("unicode/utf8.acceptRanges", laid_unicode_utf8_acceptRanges), ("turnkey/pad.units", laid_turnkey_pad_units), ("unicode/utf8.first", laid_unicode_utf8_first)], narrowed := true }
def PadSizesUptoSaid : Prop := padSizesUptoRow.holds Tryd.pinned (OpenSpec.upto padSizesSpec)

/-- 'turnkeylaw10.PadApart', WHERE WHAT IT READS IS OF BULK AT MOST 1048576: true; the input reads as it did. -/
def padApartUptoRow : OpenClaim := { program := "ytpfhpopfakfjhaadoor", sum := "87cf85577a6d58ae42df8b399e6bf56b387720148bbc9172679d15cedc39e173", func := "turnkey/turnkeylaw10.PadApart", spec := "padApart", inPlace := ["internal/bytealg.IndexByteString", "internal/bytealg.IndexString"], named := ["turnkey/pad.units", "unicode/utf8.first", "unicode/utf8.acceptRanges", "internal/bytealg.MaxLen"], apart := false, laid := [("unicode/utf8.acceptRanges", laid_unicode_utf8_acceptRanges), ("turnkey/pad.units", laid_turnkey_pad_units), ("unicode/utf8.first", laid_unicode_utf8_first)], narrowed := true }
def PadApartUptoSaid : Prop := padApartUptoRow.holds Tryd.pinned (OpenSpec.upto padApartSpec)

end Rows
end Go.Proofs.YtpfhpopfakfjhaaDoor
