/-
  DERIVED. GIVEN WITH THE SEED: THE CARDS: each row of YtnognphjndpgkaaDoorRows.lean that lists a variable, with what it lists TIED to the program's text (the seventh form; the later family's looks); each row that meets fmt, with fmt's text TOLD by the authors' own Lean function (tested against real Go, not proved from fmt's source: count such statements apart). THE CARD IS WHAT COUNTS. Prove the row's statement (the work); the ties are given (YtnognphjndpgkaaDoorTie.lean); close each card by the builder's one call (the guide's Derived/Test/ToyasCard.lean, 'card_holds'). Laid BY PROGRAM, IN A SANDBOX (cutbox-door.mjs). By AI agents, Wed Nov 11 2026. No macro, syntax, notation, axiom, sorry.
-/
import Derived.Test.YtnognphjndpgkaaDoorRows
import GoSem.ClaimSeven
namespace Go.Proofs.YtnognphjndpgkaaDoor
namespace Rows

/-- THE TIED CARD OF 'erratalaw07.RuleChecks'. -/
def ruleChecksCard : Claim7 := { stood := { row := ruleChecksRow, standIns := [], harness := (true, "6b6a4ec2ba09aeb5bf6591887724954f4404007a34160bc20a3f37525543dcdf"), looks := false }, kinds := [], alts := [], laidByText := true, laidKinds := [.data, .pinned], laidTests := true, laidLooks := .later }
def RuleChecksCardSaid : Prop := Claim7.holds Tryd.pinned (.plain (OpenSpec.ofChange ruleChecksSpec)) ruleChecksCard

/-- THE TIED CARD OF 'erratalaw07.RuleNormals'. -/
def ruleNormalsCard : Claim7 := { stood := { row := ruleNormalsRow, standIns := [], harness := (true, "6b6a4ec2ba09aeb5bf6591887724954f4404007a34160bc20a3f37525543dcdf"), looks := false }, kinds := [], alts := [], laidByText := true, laidKinds := [.data, .pinned], laidTests := true, laidLooks := .later }
def RuleNormalsCardSaid : Prop := Claim7.holds Tryd.pinned (.plain (OpenSpec.ofChange ruleNormalsSpec)) ruleNormalsCard

/-- THE TIED CARD OF 'erratalaw07.RuleMakes'. -/
def ruleMakesCard : Claim7 := { stood := { row := ruleMakesRow, standIns := [], harness := (true, "6b6a4ec2ba09aeb5bf6591887724954f4404007a34160bc20a3f37525543dcdf"), looks := false }, kinds := [], alts := [], laidByText := true, laidKinds := [.data, .pinned], laidTests := true, laidLooks := .later }
def RuleMakesCardSaid : Prop := Claim7.holds Tryd.pinned (.plain (OpenSpec.ofChange ruleMakesSpec)) ruleMakesCard

/-- THE TIED CARD OF 'erratalaw07.RuleOnce'. -/
def ruleOnceCard : Claim7 := { stood := { row := ruleOnceRow, standIns := [], harness := (true, "6b6a4ec2ba09aeb5bf6591887724954f4404007a34160bc20a3f37525543dcdf"), looks := false }, kinds := [], alts := [], laidByText := true, laidKinds := [.data, .pinned], laidTests := true, laidLooks := .later }
def RuleOnceCardSaid : Prop := Claim7.holds Tryd.pinned (.plain (OpenSpec.ofChange ruleOnceSpec)) ruleOnceCard

/-- THE TIED CARD OF 'erratalaw07.RuleOften'. -/
def ruleOftenCard : Claim7 := { stood := { row := ruleOftenRow, standIns := [], harness := (true, "6b6a4ec2ba09aeb5bf6591887724954f4404007a34160bc20a3f37525543dcdf"), looks := false }, kinds := [], alts := [], laidByText := true, laidKinds := [.data, .pinned], laidTests := true, laidLooks := .later }
def RuleOftenCardSaid : Prop := Claim7.holds Tryd.pinned (.plain (OpenSpec.ofChange ruleOftenSpec)) ruleOftenCard

/-- THE SECOND FORM's CARD OF 'erratalaw07.RuleChecks'. -/
def ruleChecksUptoCard : Claim7 := { stood := { row := ruleChecksUptoRow, standIns := [], harness := (true, "6b6a4ec2ba09aeb5bf6591887724954f4404007a34160bc20a3f37525543dcdf"), looks := false }, kinds := [], alts := [], laidByText := true, laidKinds := [.data, .pinned], laidTests := true, laidLooks := .later }
def RuleChecksUptoCardSaid : Prop := Claim7.holds Tryd.pinned (.plain (OpenSpec.upto ruleChecksSpec)) ruleChecksUptoCard

/-- THE SECOND FORM's CARD OF 'erratalaw07.RuleNormals'. -/
def ruleNormalsUptoCard : Claim7 := { stood := { row := ruleNormalsUptoRow, standIns := [], harness := (true, "6b6a4ec2ba09aeb5bf6591887724954f4404007a34160bc20a3f37525543dcdf"), looks := false }, kinds := [], alts := [], laidByText := true, laidKinds := [.data, .pinned], laidTests := true, laidLooks := .later }
def RuleNormalsUptoCardSaid : Prop := Claim7.holds Tryd.pinned (.plain (OpenSpec.upto ruleNormalsSpec)) ruleNormalsUptoCard

/-- THE SECOND FORM's CARD OF 'erratalaw07.RuleMakes'. -/
def ruleMakesUptoCard : Claim7 := { stood := { row := ruleMakesUptoRow, standIns := [], harness := (true, "6b6a4ec2ba09aeb5bf6591887724954f4404007a34160bc20a3f37525543dcdf"), looks := false }, kinds := [], alts := [], laidByText := true, laidKinds := [.data, .pinned], laidTests := true, laidLooks := .later }
def RuleMakesUptoCardSaid : Prop := Claim7.holds Tryd.pinned (.plain (OpenSpec.upto ruleMakesSpec)) ruleMakesUptoCard

/-- THE SECOND FORM's CARD OF 'erratalaw07.RuleOnce'. -/
def ruleOnceUptoCard : Claim7 := { stood := { row := ruleOnceUptoRow, standIns := [], harness := (true, "6b6a4ec2ba09aeb5bf6591887724954f4404007a34160bc20a3f37525543dcdf"), looks := false }, kinds := [], alts := [], laidByText := true, laidKinds := [.data, .pinned], laidTests := true, laidLooks := .later }
def RuleOnceUptoCardSaid : Prop := Claim7.holds Tryd.pinned (.plain (OpenSpec.upto ruleOnceSpec)) ruleOnceUptoCard

/-- THE SECOND FORM's CARD OF 'erratalaw07.RuleOften'. -/
def ruleOftenUptoCard : Claim7 := { stood := { row := ruleOftenUptoRow, standIns := [], harness := (true, "6b6a4ec2ba09aeb5bf6591887724954f4404007a34160bc20a3f37525543dcdf"), looks := false }, kinds := [], alts := [], laidByText := true, laidKinds := [.data, .pinned], laidTests := true, laidLooks := .later }
def RuleOftenUptoCardSaid : Prop := Claim7.holds Tryd.pinned (.plain (OpenSpec.upto ruleOftenSpec)) ruleOftenUptoCard
end Rows
end Go.Proofs.YtnognphjndpgkaaDoor
