/-
  DERIVED. GIVEN WITH THE SEED: THE CARDS: each row of YtnognphjndpgkaaGreatDoorRows.lean that lists a variable, with what it lists TIED to the program's text (the seventh form; the later family's looks); each row that meets fmt, with fmt's text TOLD by the authors' own Lean function (tested against real Go, not proved from fmt's source: count such statements apart). THE CARD IS WHAT COUNTS. Prove the row's statement (the work); the ties are given (YtnognphjndpgkaaGreatDoorTie.lean); close each card by the builder's one call (the guide's Derived/Test/ToyasCard.lean, 'card_holds'). Laid BY PROGRAM, IN A SANDBOX (cutbox-door.mjs). By AI agents, Wed Nov 11 2026. No macro, syntax, notation, axiom, sorry.
-/
import Derived.Test.YtnognphjndpgkaaGreatDoorRows
import GoSem.ClaimSeven
namespace Go.Proofs.YtnognphjndpgkaaGreatDoor
namespace Rows

/-- THE TIED CARD OF 'erratalaw07.RuleLearns'. -/
def ruleLearnsCard : Claim7 := { stood := { row := ruleLearnsRow, standIns := [], harness := (true, "8acf98241307d57e4cf55f079704b68505628a75b7773b9424406847aebc889b"), looks := false }, kinds := [], alts := [], laidByText := true, laidKinds := [.data, .pinned], laidTests := true, laidLooks := .later }
def RuleLearnsCardSaid : Prop := Claim7.holds Tryz.pinned (.plain (OpenSpec.ofChange ruleLearnsSpec)) ruleLearnsCard

/-- THE SECOND FORM's CARD OF 'erratalaw07.RuleLearns'. -/
def ruleLearnsUptoCard : Claim7 := { stood := { row := ruleLearnsUptoRow, standIns := [], harness := (true, "8acf98241307d57e4cf55f079704b68505628a75b7773b9424406847aebc889b"), looks := false }, kinds := [], alts := [], laidByText := true, laidKinds := [.data, .pinned], laidTests := true, laidLooks := .later }
def RuleLearnsUptoCardSaid : Prop := Claim7.holds Tryz.pinned (.plain (OpenSpec.upto ruleLearnsSpec)) ruleLearnsUptoCard
end Rows
end Go.Proofs.YtnognphjndpgkaaGreatDoor
