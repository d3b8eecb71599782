/-
  No cell of these rows narrows 'for every input' (looked for: loops, veiled, ifaces, maps, wideKeys, modest, calm, conditions, laid).
  DERIVED. THE GIVEN ROWS OF THIS SEAT. 3 by the template 'for every input the law returns true; each argument reads behind the call as it read before'; 0 by the template 'total and deterministic' (their statements: YtgfmdjagggnfbaaTotals.lean).
  GIVEN WITH THE SEED: the statements are not yours to turn. If you find one false, say at which input.
  Laid BY PROGRAM, IN A SANDBOX (cutbox-rows.mjs): the forced cells as the released guide's own fill.sh prints them over the translation df73f38d4bd3b423… (all of the seat's roots in one cut). By AI agents, Wed Nov 11 2026. No macro, syntax, notation, axiom, sorry.
-/
import Derived.Test.YtgfmdjagggnfbaaChecked
import GoSem.Claim
import GoSem.ClaimJoined
import GoSem.ClaimMapViews
import Derived.JoinedTies
import Derived.KernelRfl
namespace Go.Proofs.Ytgfmdjagggnfbaa
/- THE CELL 'sum', in the pinned program and in every row, IS THE sha256 OF THE DUMP (.gsa) THAT YtgfmdjagggnfbaaProg.lean LOADS. Nothing in Lean hashes anything: it is a label: what it is worth is what the hold of that sum in a sandbox is worth. -/
noncomputable def Try.pinned : Pinned := { name := "ytgfmdjagggnfbaa", sum := "df73f38d4bd3b42365c555a78c21648ac44f5d633241d8ae4b21a9ba9267805d", checked := Try.checked }
namespace Rows
def none {H : Type} : Left H := { results := [], args := [] }

/-- 'turnkeylaw09.CtsTexts': WHATEVER THE INPUT: true; the input reads as it did. -/
def ctsTextsSpec : ChangeSpec := { name := "ctsTexts", fn := fun _ => fun
  | [d1, d2] => { results := [.lit (.bool true)], args := [d1, d2] }
  | _ => none }
def ctsTextsRow : OpenClaim := { program := "ytgfmdjagggnfbaa", sum := "df73f38d4bd3b42365c555a78c21648ac44f5d633241d8ae4b21a9ba9267805d", func := "turnkey/turnkeylaw09.CtsTexts", spec := "ctsTexts", unfollowed := true, recurses := true, apart := false }
def CtsTextsSaid : Prop := ctsTextsRow.holds Try.pinned (OpenSpec.ofChange ctsTextsSpec)

/-- ITS FALSE NEIGHBOUR: 'it returns false'. Refute it at one input. -/
def ctsTextsWrong : ChangeSpec := { name := "ctsTexts", fn := fun _ => fun
  | [d1, d2] => { results := [.lit (.bool false)], args := [d1, d2] }
  | _ => none }
def CtsTextsWrongFalsely : Prop := ctsTextsRow.holds Try.pinned (OpenSpec.ofChange ctsTextsWrong)

/-- 'turnkeylaw09.CtsBegins': WHATEVER THE INPUT: true; the input reads as it did. -/
def ctsBeginsSpec : ChangeSpec := { name := "ctsBegins", fn := fun _ => fun
  | [d1, d2, d3] => { results := [.lit (.bool true)], args := [d1, d2, d3] }
  | _ => none }
def ctsBeginsRow : OpenClaim := { program := "ytgfmdjagggnfbaa", sum := "df73f38d4bd3b42365c555a78c21648ac44f5d633241d8ae4b21a9ba9267805d", func := "turnkey/turnkeylaw09.CtsBegins", spec := "ctsBegins", unfollowed := true, recurses := true, apart := false }
def CtsBeginsSaid : Prop := ctsBeginsRow.holds Try.pinned (OpenSpec.ofChange ctsBeginsSpec)

/-- ITS FALSE NEIGHBOUR: 'it returns false'. Refute it at one input. -/
def ctsBeginsWrong : ChangeSpec := { name := "ctsBegins", fn := fun _ => fun
  | [d1, d2, d3] => { results := [.lit (.bool false)], args := [d1, d2, d3] }
  | _ => none }
def CtsBeginsWrongFalsely : Prop := ctsBeginsRow.holds Try.pinned (OpenSpec.ofChange ctsBeginsWrong)

/-- 'turnkeylaw09.CtsLast': WHATEVER THE INPUT: true; the input reads as it did. -/
def ctsLastSpec : ChangeSpec := { name := "ctsLast", fn := fun _ => fun
  | [d1, d2, d3] => { results := [.lit (.bool true)], args := [d1, d2, d3] }
  | _ => none }
def ctsLastRow : OpenClaim := { program := "ytgfmdjagggnfbaa", sum := "df73f38d4bd3b42365c555a78c21648ac44f5d633241d8ae4b21a9ba9267805d", func := "turnkey/turnkeylaw09.CtsLast", spec := "ctsLast", unfollowed := true, recurses := true, apart := false }
def CtsLastSaid : Prop := ctsLastRow.holds Try.pinned (OpenSpec.ofChange ctsLastSpec)

/-- ITS FALSE NEIGHBOUR: 'it returns false'. Refute it at one input. -/
def ctsLastWrong : ChangeSpec := { name := "ctsLast", fn := fun _ => fun
  | [d1, d2, d3] => { results := [.lit (.bool false)], args := [d1, d2, d3] }
  | _ => none }
def CtsLastWrongFalsely : Prop := ctsLastRow.holds Try.pinned (OpenSpec.ofChange ctsLastWrong)

/- THE SECOND FORM. 'bulk': how many values and letters a reading holds, each counted each time it is reached (what is shared counts as often as it is met; a slice's spare places count too). A statement '..UptoSaid' is the law's where the arguments, and the package variables that the reading takes, are together of bulk at most 1048576: NARROWER than '..Said'. Prove '..Said' where nothing that the law and all that it calls make is longer than what came in: it says more and counts as full. Else prove '..UptoSaid'. A law counts once. -/
mutual
def uptoBulk {H : Type} : DataW H → Nat
  | .lit (.string bytes) => bytes.length + 1
  | .lit _ => 1
  | .nil => 1
  | .ptr d => uptoBulk d + 1
  | .slice elems spare => uptoBulkAll elems + uptoBulkAll spare + 1
  | .agg parts => uptoBulkAll parts + 1
  | .iface _ d => uptoBulk d + 1
  | .map entries => uptoBulkEntries entries + 1
  | .held _ => 1
def uptoBulkAll {H : Type} : List (DataW H) → Nat
  | [] => 0
  | d :: r => uptoBulk d + uptoBulkAll r
def uptoBulkEntries {H : Type} : List (Lit × DataW H) → Nat
  | [] => 0
  | x :: r => uptoBulkEntry x + uptoBulkEntries r
def uptoBulkEntry {H : Type} : Lit × DataW H → Nat
  | (.string bytes, d) => bytes.length + uptoBulk d + 1
  | (_, d) => uptoBulk d + 1
 end
def uptoSmall : (H : Type) → List (DataW H) → Bool := fun _ ds => decide (uptoBulkAll ds ≤ 1048576)
def OpenSpec.upto (s : _root_.Go.ChangeSpec) : _root_.Go.OpenSpec := { _root_.Go.OpenSpec.ofChange s with cond := some uptoSmall }

/-- 'turnkeylaw09.CtsTexts', WHERE WHAT IT READS IS OF BULK AT MOST 1048576: true; the input reads as it did. -/
def ctsTextsUptoRow : OpenClaim := { program := "ytgfmdjagggnfbaa", sum := "df73f38d4bd3b42365c555a78c21648ac44f5d633241d8ae4b21a9ba9267805d", func := "turnkey/turnkeylaw09.CtsTexts", spec := "ctsTexts", unfollowed := true, recurses := true, apart := false, narrowed := true }
def CtsTextsUptoSaid : Prop := ctsTextsUptoRow.holds Try.pinned (OpenSpec.upto ctsTextsSpec)

/-- 'turnkeylaw09.CtsBegins', WHERE WHAT IT READS IS OF BULK AT MOST 1048576: true; the input reads as it did. -/
def ctsBeginsUptoRow : OpenClaim := { program := "ytgfmdjagggnfbaa", sum := "df73f38d4bd3b42365c555a78c21648ac44f5d633241d8ae4b21a9ba9267805d", func := "turnkey/turnkeylaw09.CtsBegins", spec := "ctsBegins", unfollowed := true, recurses := true, apart := false, narrowed := true }
def CtsBeginsUptoSaid : Prop := ctsBeginsUptoRow.holds Try.pinned (OpenSpec.upto ctsBeginsSpec)

/-- 'turnkeylaw09.CtsLast', WHERE WHAT IT READS IS OF BULK AT MOST 1048576: true; the input reads as it did. -/
def ctsLastUptoRow : OpenClaim := { program := "ytgfmdjagggnfbaa", sum := "df73f38d4bd3b42365c555a78c21648ac44f5d633241d8ae4b21a9ba9267805d", func := "turnkey/turnkeylaw09.CtsLast", spec := "ctsLast", unfollowed := true, recurses := true, apart := false, narrowed := true }
def CtsLastUptoSaid : Prop := ctsLastUptoRow.holds Try.pinned (OpenSpec.upto ctsLastSpec)

end Rows
end Go.Proofs.Ytgfmdjagggnfbaa
