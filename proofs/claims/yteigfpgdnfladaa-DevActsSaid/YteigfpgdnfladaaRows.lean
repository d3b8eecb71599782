/-
  No cell of these rows narrows 'for every input' (looked for: loops, veiled, ifaces, maps, wideKeys, modest, calm, conditions, laid).
  DERIVED. THE GIVEN ROWS OF THIS SEAT. 4 by the template 'for every input the law returns true; each argument reads behind the call as it read before'; 0 by the template 'total and deterministic' (their statements: YteigfpgdnfladaaTotals.lean).
  GIVEN WITH THE SEED: the statements are not yours to turn. If you find one false, say at which input.
  Laid BY PROGRAM, IN A SANDBOX (cutbox-rows.mjs): the forced cells as the released guide's own fill.sh prints them over the translation 3f01e084831c3189… (all of the seat's roots in one cut). By AI agents, Wed Nov 11 2026. No macro, syntax, notation, axiom, sorry.
-/
import Derived.Test.YteigfpgdnfladaaChecked
import GoSem.Claim
import GoSem.ClaimJoined
import GoSem.ClaimMapViews
import Derived.JoinedTies
import Derived.KernelRfl
namespace Go.Proofs.Yteigfpgdnfladaa
/- THE CELL 'sum', in the pinned program and in every row, IS THE sha256 OF THE DUMP (.gsa) THAT YteigfpgdnfladaaProg.lean LOADS. Nothing in Lean hashes anything: it is a label: what it is worth is what the hold of that sum in a sandbox is worth. -/
noncomputable def Try.pinned : Pinned := { name := "yteigfpgdnfladaa", sum := "3f01e084831c318965ebe5dd051301013998484aa3169bde7f774e58461765f1", checked := Try.checked }
namespace Rows
def none {H : Type} : Left H := { results := [], args := [] }

/-- 'turnkeylaw13.DevActs': WHATEVER THE INPUT: true; the input reads as it did. -/
def devActsSpec : ChangeSpec := { name := "devActs", fn := fun _ => fun
  | [d1, d2] => { results := [.lit (.bool true)], args := [d1, d2] }
  | _ => none }
def devActsRow : OpenClaim := { program := "yteigfpgdnfladaa", sum := "3f01e084831c318965ebe5dd051301013998484aa3169bde7f774e58461765f1", func := "turnkey/turnkeylaw13.DevActs", spec := "devActs", unfollowed := true, recurses := true, apart := false }
def DevActsSaid : Prop := devActsRow.holds Try.pinned (OpenSpec.ofChange devActsSpec)

/-- ITS FALSE NEIGHBOUR: 'it returns false'. Refute it at one input. -/
def devActsWrong : ChangeSpec := { name := "devActs", fn := fun _ => fun
  | [d1, d2] => { results := [.lit (.bool false)], args := [d1, d2] }
  | _ => none }
def DevActsWrongFalsely : Prop := devActsRow.holds Try.pinned (OpenSpec.ofChange devActsWrong)

/-- 'turnkeylaw13.DevKeeps': WHATEVER THE INPUT: true; the input reads as it did. -/
def devKeepsSpec : ChangeSpec := { name := "devKeeps", fn := fun _ => fun
  | [d1, d2] => { results := [.lit (.bool true)], args := [d1, d2] }
  | _ => none }
def devKeepsRow : OpenClaim := { program := "yteigfpgdnfladaa", sum := "3f01e084831c318965ebe5dd051301013998484aa3169bde7f774e58461765f1", func := "turnkey/turnkeylaw13.DevKeeps", spec := "devKeeps", unfollowed := true, recurses := true, apart := false }
def DevKeepsSaid : Prop := devKeepsRow.holds Try.pinned (OpenSpec.ofChange devKeepsSpec)

/-- ITS FALSE NEIGHBOUR: 'it returns false'. Refute it at one input. -/
def devKeepsWrong : ChangeSpec := { name := "devKeeps", fn := fun _ => fun
  | [d1, d2] => { results := [.lit (.bool false)], args := [d1, d2] }
  | _ => none }
def DevKeepsWrongFalsely : Prop := devKeepsRow.holds Try.pinned (OpenSpec.ofChange devKeepsWrong)

/-- 'turnkeylaw13.DevOff': WHATEVER THE INPUT: true; the input reads as it did. -/
def devOffSpec : ChangeSpec := { name := "devOff", fn := fun _ => fun
  | [d1, d2] => { results := [.lit (.bool true)], args := [d1, d2] }
  | _ => none }
def devOffRow : OpenClaim := { program := "yteigfpgdnfladaa", sum := "3f01e084831c318965ebe5dd051301013998484aa3169bde7f774e58461765f1", func := "turnkey/turnkeylaw13.DevOff", spec := "devOff", unfollowed := true, recurses := true, apart := false }
def DevOffSaid : Prop := devOffRow.holds Try.pinned (OpenSpec.ofChange devOffSpec)

/-- ITS FALSE NEIGHBOUR: 'it returns false'. Refute it at one input. -/
def devOffWrong : ChangeSpec := { name := "devOff", fn := fun _ => fun
  | [d1, d2] => { results := [.lit (.bool false)], args := [d1, d2] }
  | _ => none }
def DevOffWrongFalsely : Prop := devOffRow.holds Try.pinned (OpenSpec.ofChange devOffWrong)

/-- 'turnkeylaw13.DevLosses': WHATEVER THE INPUT: true; the input reads as it did. -/
def devLossesSpec : ChangeSpec := { name := "devLosses", fn := fun _ => fun
  | [d1, d2] => { results := [.lit (.bool true)], args := [d1, d2] }
  | _ => none }
def devLossesRow : OpenClaim := { program := "yteigfpgdnfladaa", sum := "3f01e084831c318965ebe5dd051301013998484aa3169bde7f774e58461765f1", func := "turnkey/turnkeylaw13.DevLosses", spec := "devLosses", unfollowed := true, recurses := true, apart := false }
def DevLossesSaid : Prop := devLossesRow.holds Try.pinned (OpenSpec.ofChange devLossesSpec)

/-- ITS FALSE NEIGHBOUR: 'it returns false'. Refute it at one input. -/
def devLossesWrong : ChangeSpec := { name := "devLosses", fn := fun _ => fun
  | [d1, d2] => { results := [.lit (.bool false)], args := [d1, d2] }
  | _ => none }
def DevLossesWrongFalsely : Prop := devLossesRow.holds Try.pinned (OpenSpec.ofChange devLossesWrong)

/- THE SECOND FORM. 'bulk': how many values and letters a reading holds, each counted each time it is reached (what is shared counts as often as it is met; a slice's spare places count too). A statement '..UptoSaid' is the law's where the arguments, and the package variables that the reading takes, are together of bulk at most 1048576: NARROWER than '..Said'. Prove '..Said' where nothing that the law and all that it calls make is longer than what came in: it says more and counts as full. Else prove '..UptoSaid'. A law counts once. -/
mutual
def uptoBulk {H : Type} : DataW H → Nat
  | .lit (.string bytes) => bytes.length + 1
  | .lit _ => 1
  | .nil => 1
  | .ptr d => uptoBulk d + 1
  | .slice elems spare => uptoBulkAll elems + uptoBulkAll spare + 1
  | .agg parts => uptoBulkAll parts + 1
  | .iface _ d => uptoBulk d + 1
  | .map entries => uptoBulkEntries entries + 1
  | .held _ => 1
def uptoBulkAll {H : Type} : List (DataW H) → Nat
  | [] => 0
  | d :: r => uptoBulk d + uptoBulkAll r
def uptoBulkEntries {H : Type} : List (Lit × DataW H) → Nat
  | [] => 0
  | x :: r => uptoBulkEntry x + uptoBulkEntries r
def uptoBulkEntry {H : Type} : Lit × DataW H → Nat
  | (.string bytes, d) => bytes.length + uptoBulk d + 1
  | (_, d) => uptoBulk d + 1
 end
def uptoSmall : (H : Type) → List (DataW H) → Bool := fun _ ds => decide (uptoBulkAll ds ≤ 1048576)
def OpenSpec.upto (s : _root_.Go.ChangeSpec) : _root_.Go.OpenSpec := { _root_.Go.OpenSpec.ofChange s with cond := some uptoSmall }

/-- 'turnkeylaw13.DevActs', WHERE WHAT IT READS IS OF BULK AT MOST 1048576: true; the input reads as it did. -/
def devActsUptoRow : OpenClaim := { program := "yteigfpgdnfladaa", sum := "3f01e084831c318965ebe5dd051301013998484aa3169bde7f774e58461765f1", func := "turnkey/turnkeylaw13.DevActs", spec := "devActs", unfollowed := true, recurses := true, apart := false, narrowed := true }
def DevActsUptoSaid : Prop := devActsUptoRow.holds Try.pinned (OpenSpec.upto devActsSpec)

/-- 'turnkeylaw13.DevKeeps', WHERE WHAT IT READS IS OF BULK AT MOST 1048576: true; the input reads as it did. -/
def devKeepsUptoRow : OpenClaim := { program := "yteigfpgdnfladaa", sum := "3f01e084831c318965ebe5dd051301013998484aa3169bde7f774e58461765f1", func := "turnkey/turnkeylaw13.DevKeeps", spec := "devKeeps", unfollowed := true, recurses := true, apart := false, narrowed := true }
def DevKeepsUptoSaid : Prop := devKeepsUptoRow.holds Try.pinned (OpenSpec.upto devKeepsSpec)

/-- 'turnkeylaw13.DevOff', WHERE WHAT IT READS IS OF BULK AT MOST 1048576: true; the input reads as it did. -/
def devOffUptoRow : OpenClaim := { program := "yteigfpgdnfladaa", sum := "3f01e084831c318965ebe5dd051301013998484aa3169bde7f774e58461765f1", func := "turnkey/turnkeylaw13.DevOff", spec := "devOff", unfollowed := true, recurses := true, apart := false, narrowed := true }
def DevOffUptoSaid : Prop := devOffUptoRow.holds Try.pinned (OpenSpec.upto devOffSpec)

/-- 'turnkeylaw13.DevLosses', WHERE WHAT IT READS IS OF BULK AT MOST 1048576: true; the input reads as it did. -/
def devLossesUptoRow : OpenClaim := { program := "yteigfpgdnfladaa", sum := "3f01e084831c318965ebe5dd051301013998484aa3169bde7f774e58461765f1", func := "turnkey/turnkeylaw13.DevLosses", spec := "devLosses", unfollowed := true, recurses := true, apart := false, narrowed := true }
def DevLossesUptoSaid : Prop := devLossesUptoRow.holds Try.pinned (OpenSpec.upto devLossesSpec)

end Rows
end Go.Proofs.Yteigfpgdnfladaa
