/-
  DERIVED. GIVEN WITH THE SEED: THE CARDS: each row of YtbjfjncpnnlklaaDoorRows.lean that lists a variable, with what it lists TIED to the program's text (the seventh form; the later family's looks); each row that meets fmt, with fmt's text TOLD by the authors' own Lean function (tested against real Go, not proved from fmt's source: count such statements apart). THE CARD IS WHAT COUNTS. Prove the row's statement (the work); the ties are given (YtbjfjncpnnlklaaDoorTie.lean); close each card by the builder's one call (the guide's Derived/Test/ToyasCard.lean, 'card_holds'). Laid BY PROGRAM, IN A SANDBOX (cutbox-door.mjs). By AI agents, Wed Nov 11 2026. No macro, syntax, notation, axiom, sorry.
-/
import Derived.Test.YtbjfjncpnnlklaaDoorRows
import GoSem.ClaimSeven
namespace Go.Proofs.YtbjfjncpnnlklaaDoor
namespace Rows

/-- THE TIED CARD OF 'turnkeylaw05.HmacSums'. -/
def hmacSumsCard : Claim7 := { stood := { row := hmacSumsRow, standIns := [], harness := (true, "c4e24138a13fc501841ff9f60c35abfab5e188a5edb24f2e0ae76a5f40291cf2"), looks := false }, kinds := [], alts := [], laidByText := true, laidKinds := [.data], laidTests := true, laidLooks := .later }
def HmacSumsCardSaid : Prop := Claim7.holds Tryd.pinned (.plain (OpenSpec.ofChange hmacSumsSpec)) hmacSumsCard

/-- THE TIED CARD OF 'turnkeylaw05.HmacRights'. -/
def hmacRightsCard : Claim7 := { stood := { row := hmacRightsRow, standIns := [], harness := (true, "c4e24138a13fc501841ff9f60c35abfab5e188a5edb24f2e0ae76a5f40291cf2"), looks := false }, kinds := [], alts := [], laidByText := true, laidKinds := [.data], laidTests := true, laidLooks := .later }
def HmacRightsCardSaid : Prop := Claim7.holds Tryd.pinned (.plain (OpenSpec.ofChange hmacRightsSpec)) hmacRightsCard

/-- THE TIED CARD OF 'turnkeylaw05.HmacNoughts'. -/
def hmacNoughtsCard : Claim7 := { stood := { row := hmacNoughtsRow, standIns := [], harness := (true, "c4e24138a13fc501841ff9f60c35abfab5e188a5edb24f2e0ae76a5f40291cf2"), looks := false }, kinds := [], alts := [], laidByText := true, laidKinds := [.data], laidTests := true, laidLooks := .later }
def HmacNoughtsCardSaid : Prop := Claim7.holds Tryd.pinned (.plain (OpenSpec.ofChange hmacNoughtsSpec)) hmacNoughtsCard

/-- THE TIED CARD OF 'turnkeylaw05.HmacLong'. -/
def hmacLongCard : Claim7 := { stood := { row := hmacLongRow, standIns := [], harness := (true, "c4e24138a13fc501841ff9f60c35abfab5e188a5edb24f2e0ae76a5f40291cf2"), looks := false }, kinds := [], alts := [], laidByText := true, laidKinds := [.data], laidTests := true, laidLooks := .later }
def HmacLongCardSaid : Prop := Claim7.holds Tryd.pinned (.plain (OpenSpec.ofChange hmacLongSpec)) hmacLongCard

/-- THE SECOND FORM's CARD OF 'turnkeylaw05.HmacSums'. -/
def hmacSumsUptoCard : Claim7 := { stood := { row := hmacSumsUptoRow, standIns := [], harness := (true, "c4e24138a13fc501841ff9f60c35abfab5e188a5edb24f2e0ae76a5f40291cf2"), looks := false }, kinds := [], alts := [], laidByText := true, laidKinds := [.data], laidTests := true, laidLooks := .later }
def HmacSumsUptoCardSaid : Prop := Claim7.holds Tryd.pinned (.plain (OpenSpec.upto hmacSumsSpec)) hmacSumsUptoCard

/-- THE SECOND FORM's CARD OF 'turnkeylaw05.HmacRights'. -/
def hmacRightsUptoCard : Claim7 := { stood := { row := hmacRightsUptoRow, standIns := [], harness := (true, "c4e24138a13fc501841ff9f60c35abfab5e188a5edb24f2e0ae76a5f40291cf2"), looks := false }, kinds := [], alts := [], laidByText := true, laidKinds := [.data], laidTests := true, laidLooks := .later }
def HmacRightsUptoCardSaid : Prop := Claim7.holds Tryd.pinned (.plain (OpenSpec.upto hmacRightsSpec)) hmacRightsUptoCard

/-- THE SECOND FORM's CARD OF 'turnkeylaw05.HmacNoughts'. -/
def hmacNoughtsUptoCard : Claim7 := { stood := { row := hmacNoughtsUptoRow, standIns := [], harness := (true, "c4e24138a13fc501841ff9f60c35abfab5e188a5edb24f2e0ae76a5f40291cf2"), looks := false }, kinds := [], alts := [], laidByText := true, laidKinds := [.data], laidTests := true, laidLooks := .later }
def HmacNoughtsUptoCardSaid : Prop := Claim7.holds Tryd.pinned (.plain (OpenSpec.upto hmacNoughtsSpec)) hmacNoughtsUptoCard

/-- THE SECOND FORM's CARD OF 'turnkeylaw05.HmacLong'. -/
def hmacLongUptoCard : Claim7 := { stood := { row := hmacLongUptoRow, standIns := [], harness := (true, "c4e24138a13fc501841ff9f60c35abfab5e188a5edb24f2e0ae76a5f40291cf2"), looks := false }, kinds := [], alts := [], laidByText := true, laidKinds := [.data], laidTests := true, laidLooks := .later }
def HmacLongUptoCardSaid : Prop := Claim7.holds Tryd.pinned (.plain (OpenSpec.upto hmacLongSpec)) hmacLongUptoCard
end Rows
end Go.Proofs.YtbjfjncpnnlklaaDoor
