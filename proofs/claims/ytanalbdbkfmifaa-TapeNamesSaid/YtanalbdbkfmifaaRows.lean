/-
  No cell of these rows narrows 'for every input' (looked for: loops, veiled, ifaces, maps, wideKeys, modest, calm, conditions, laid).
  DERIVED. THE GIVEN ROWS OF THIS SEAT. 4 by the template 'for every input the law returns true; each argument reads behind the call as it read before'; 0 by the template 'total and deterministic' (their statements: YtanalbdbkfmifaaTotals.lean).
  GIVEN WITH THE SEED: the statements are not yours to turn. If you find one false, say at which input.
  Laid BY PROGRAM, IN A SANDBOX (cutbox-rows.mjs): the forced cells as the released guide's own fill.sh prints them over the translation c27d9a8c9ef055b5… (all of the seat's roots in one cut). By AI agents, Wed Nov 11 2026. No macro, syntax, notation, axiom, sorry.
-/
import Derived.Test.YtanalbdbkfmifaaChecked
import GoSem.Claim
import GoSem.ClaimJoined
import GoSem.ClaimMapViews
import Derived.JoinedTies
import Derived.KernelRfl
namespace Go.Proofs.Ytanalbdbkfmifaa
/- THE CELL 'sum', in the pinned program and in every row, IS THE sha256 OF THE DUMP (.gsa) THAT YtanalbdbkfmifaaProg.lean LOADS. Nothing in Lean hashes anything: it is a label: what it is worth is what the hold of that sum in a sandbox is worth. -/
noncomputable def Try.pinned : Pinned := { name := "ytanalbdbkfmifaa", sum := "c27d9a8c9ef055b5fe64b964fe71070ceef6aee318f3570850978e7dd0f05200", checked := Try.checked }
namespace Rows
def none {H : Type} : Left H := { results := [], args := [] }

/-- 'turnkeylaw11.TapeActs': WHATEVER THE INPUT: true; the input reads as it did. -/
def tapeActsSpec : ChangeSpec := { name := "tapeActs", fn := fun _ => fun
  | [d1, d2] => { results := [.lit (.bool true)], args := [d1, d2] }
  | _ => none }
def tapeActsRow : OpenClaim := { program := "ytanalbdbkfmifaa", sum := "c27d9a8c9ef055b5fe64b964fe71070ceef6aee318f3570850978e7dd0f05200", func := "turnkey/turnkeylaw11.TapeActs", spec := "tapeActs", plainKeys := false, apart := false }
def TapeActsSaid : Prop := tapeActsRow.holds Try.pinned (OpenSpec.ofChange tapeActsSpec)

/-- ITS FALSE NEIGHBOUR: 'it returns false'. Refute it at one input. -/
def tapeActsWrong : ChangeSpec := { name := "tapeActs", fn := fun _ => fun
  | [d1, d2] => { results := [.lit (.bool false)], args := [d1, d2] }
  | _ => none }
def TapeActsWrongFalsely : Prop := tapeActsRow.holds Try.pinned (OpenSpec.ofChange tapeActsWrong)

/-- 'turnkeylaw11.TapePairs': WHATEVER THE INPUT: true; the input reads as it did. -/
def tapePairsSpec : ChangeSpec := { name := "tapePairs", fn := fun _ => fun
  | [d1, d2, d3] => { results := [.lit (.bool true)], args := [d1, d2, d3] }
  | _ => none }
def tapePairsRow : OpenClaim := { program := "ytanalbdbkfmifaa", sum := "c27d9a8c9ef055b5fe64b964fe71070ceef6aee318f3570850978e7dd0f05200", func := "turnkey/turnkeylaw11.TapePairs", spec := "tapePairs", plainKeys := false, apart := false }
def TapePairsSaid : Prop := tapePairsRow.holds Try.pinned (OpenSpec.ofChange tapePairsSpec)

/-- ITS FALSE NEIGHBOUR: 'it returns false'. Refute it at one input. -/
def tapePairsWrong : ChangeSpec := { name := "tapePairs", fn := fun _ => fun
  | [d1, d2, d3] => { results := [.lit (.bool false)], args := [d1, d2, d3] }
  | _ => none }
def TapePairsWrongFalsely : Prop := tapePairsRow.holds Try.pinned (OpenSpec.ofChange tapePairsWrong)

/-- 'turnkeylaw11.TapeGood': WHATEVER THE INPUT: true; the input reads as it did. -/
def tapeGoodSpec : ChangeSpec := { name := "tapeGood", fn := fun _ => fun
  | [d1, d2] => { results := [.lit (.bool true)], args := [d1, d2] }
  | _ => none }
def tapeGoodRow : OpenClaim := { program := "ytanalbdbkfmifaa", sum := "c27d9a8c9ef055b5fe64b964fe71070ceef6aee318f3570850978e7dd0f05200", func := "turnkey/turnkeylaw11.TapeGood", spec := "tapeGood", plainKeys := false, apart := false }
def TapeGoodSaid : Prop := tapeGoodRow.holds Try.pinned (OpenSpec.ofChange tapeGoodSpec)

/-- ITS FALSE NEIGHBOUR: 'it returns false'. Refute it at one input. -/
def tapeGoodWrong : ChangeSpec := { name := "tapeGood", fn := fun _ => fun
  | [d1, d2] => { results := [.lit (.bool false)], args := [d1, d2] }
  | _ => none }
def TapeGoodWrongFalsely : Prop := tapeGoodRow.holds Try.pinned (OpenSpec.ofChange tapeGoodWrong)

/-- 'turnkeylaw11.TapeNames': WHATEVER THE INPUT: true; the input reads as it did. -/
def tapeNamesSpec : ChangeSpec := { name := "tapeNames", fn := fun _ => fun
  | [d1, d2] => { results := [.lit (.bool true)], args := [d1, d2] }
  | _ => none }
def tapeNamesRow : OpenClaim := { program := "ytanalbdbkfmifaa", sum := "c27d9a8c9ef055b5fe64b964fe71070ceef6aee318f3570850978e7dd0f05200", func := "turnkey/turnkeylaw11.TapeNames", spec := "tapeNames", plainKeys := false, apart := false }
def TapeNamesSaid : Prop := tapeNamesRow.holds Try.pinned (OpenSpec.ofChange tapeNamesSpec)

/-- ITS FALSE NEIGHBOUR: 'it returns false'. Refute it at one input. -/
def tapeNamesWrong : ChangeSpec := { name := "tapeNames", fn := fun _ => fun
  | [d1, d2] => { results := [.lit (.bool false)], args := [d1, d2] }
  | _ => none }
def TapeNamesWrongFalsely : Prop := tapeNamesRow.holds Try.pinned (OpenSpec.ofChange tapeNamesWrong)

/- THE SECOND FORM. 'bulk': how many values and letters a reading holds, each counted each time it is reached (what is shared counts as often as it is met; a slice's spare places count too). A statement '..UptoSaid' is the law's where the arguments, and the package variables that the reading takes, are together of bulk at most 1048576: NARROWER than '..Said'. Prove '..Said' where nothing that the law and all that it calls make is longer than what came in: it says more and counts as full. Else prove '..UptoSaid'. A law counts once. -/
mutual
def uptoBulk {H : Type} : DataW H → Nat
  | .lit (.string bytes) => bytes.length + 1
  | .lit _ => 1
  | .nil => 1
  | .ptr d => uptoBulk d + 1
  | .slice elems spare => uptoBulkAll elems + uptoBulkAll spare + 1
  | .agg parts => uptoBulkAll parts + 1
  | .iface _ d => uptoBulk d + 1
  | .map entries => uptoBulkEntries entries + 1
  | .held _ => 1
def uptoBulkAll {H : Type} : List (DataW H) → Nat
  | [] => 0
  | d :: r => uptoBulk d + uptoBulkAll r
def uptoBulkEntries {H : Type} : List (Lit × DataW H) → Nat
  | [] => 0
  | x :: r => uptoBulkEntry x + uptoBulkEntries r
def uptoBulkEntry {H : Type} : Lit × DataW H → Nat
  | (.string bytes, d) => bytes.length + uptoBulk d + 1
  | (_, d) => uptoBulk d + 1
 end
def uptoSmall : (H : Type) → List (DataW H) → Bool := fun _ ds => decide (uptoBulkAll ds ≤ 1048576)
def OpenSpec.upto (s : _root_.Go.ChangeSpec) : _root_.Go.OpenSpec := { _root_.Go.OpenSpec.ofChange s with cond := some uptoSmall }

/-- 'turnkeylaw11.TapeActs', WHERE WHAT IT READS IS OF BULK AT MOST 1048576: true; the input reads as it did. -/
def tapeActsUptoRow : OpenClaim := { program := "ytanalbdbkfmifaa", sum := "c27d9a8c9ef055b5fe64b964fe71070ceef6aee318f3570850978e7dd0f05200", func := "turnkey/turnkeylaw11.TapeActs", spec := "tapeActs", plainKeys := false, apart := false, narrowed := true }
def TapeActsUptoSaid : Prop := tapeActsUptoRow.holds Try.pinned (OpenSpec.upto tapeActsSpec)

/-- 'turnkeylaw11.TapePairs', WHERE WHAT IT READS IS OF BULK AT MOST 1048576: true; the input reads as it did. -/
def tapePairsUptoRow : OpenClaim := { program := "ytanalbdbkfmifaa", sum := "c27d9a8c9ef055b5fe64b964fe71070ceef6aee318f3570850978e7dd0f05200", func := "turnkey/turnkeylaw11.TapePairs", spec := "tapePairs", plainKeys := false, apart := false, narrowed := true }
def TapePairsUptoSaid : Prop := tapePairsUptoRow.holds Try.pinned (OpenSpec.upto tapePairsSpec)

/-- 'turnkeylaw11.TapeGood', WHERE WHAT IT READS IS OF BULK AT MOST 1048576: true; the input reads as it did. -/
def tapeGoodUptoRow : OpenClaim := { program := "ytanalbdbkfmifaa", sum := "c27d9a8c9ef055b5fe64b964fe71070ceef6aee318f3570850978e7dd0f05200", func := "turnkey/turnkeylaw11.TapeGood", spec := "tapeGood", plainKeys := false, apart := false, narrowed := true }
def TapeGoodUptoSaid : Prop := tapeGoodUptoRow.holds Try.pinned (OpenSpec.upto tapeGoodSpec)

/-- 'turnkeylaw11.TapeNames', WHERE WHAT IT READS IS OF BULK AT MOST 1048576: true; the input reads as it did. -/
def tapeNamesUptoRow : OpenClaim := { program := "ytanalbdbkfmifaa", sum := "c27d9a8c9ef055b5fe64b964fe71070ceef6aee318f3570850978e7dd0f05200", func := "turnkey/turnkeylaw11.TapeNames", spec := "tapeNames", plainKeys := false, apart := false, narrowed := true }
def TapeNamesUptoSaid : Prop := tapeNamesUptoRow.holds Try.pinned (OpenSpec.upto tapeNamesSpec)

end Rows
end Go.Proofs.Ytanalbdbkfmifaa
