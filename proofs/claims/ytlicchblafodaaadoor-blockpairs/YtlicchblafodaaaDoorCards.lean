/-
  DERIVED. GIVEN WITH THE SEED: THE CARDS: each row of YtlicchblafodaaaDoorRows.lean that lists a variable, with what it lists TIED to the program's text (the seventh form; the later family's looks); each row that meets fmt, with fmt's text TOLD by the authors' own Lean function (tested against real Go, not proved from fmt's source: count such statements apart). THE CARD IS WHAT COUNTS. Prove the row's statement (the work); the ties are given (YtlicchblafodaaaDoorTie.lean); close each card by the builder's one call (the guide's Derived/Test/ToyasCard.lean, 'card_holds'). Laid BY PROGRAM, IN A SANDBOX (cutbox-door.mjs). By AI agents, Wed Nov 11 2026. No macro, syntax, notation, axiom, sorry.
-/
import Derived.Test.YtlicchblafodaaaDoorRows
import GoSem.ClaimSeven
namespace Go.Proofs.YtlicchblafodaaaDoor
namespace Rows

/-- THE TIED CARD OF 'erratalaw05.BlockSteps'. -/
def blockStepsCard : Claim7 := { stood := { row := blockStepsRow, standIns := [], harness := (true, "64fe966638a037c42fbedd77eacaf4a1d3bd5f173d055ec23bf985108cd9ba7e"), looks := false }, kinds := [], alts := [], laidByText := true, laidKinds := [.data, .pinned], laidTests := true, laidLooks := .later }
def BlockStepsCardSaid : Prop := Claim7.holds Tryd.pinned (.plain (OpenSpec.ofChange blockStepsSpec)) blockStepsCard

/-- THE TIED CARD OF 'erratalaw05.BlockPairs'. -/
def blockPairsCard : Claim7 := { stood := { row := blockPairsRow, standIns := [], harness := (true, "64fe966638a037c42fbedd77eacaf4a1d3bd5f173d055ec23bf985108cd9ba7e"), looks := false }, kinds := [], alts := [], laidByText := true, laidKinds := [.data, .pinned], laidTests := true, laidLooks := .later }
def BlockPairsCardSaid : Prop := Claim7.holds Tryd.pinned (.plain (OpenSpec.ofChange blockPairsSpec)) blockPairsCard

/-- THE TIED CARD OF 'erratalaw05.BlockChecks'. -/
def blockChecksCard : Claim7 := { stood := { row := blockChecksRow, standIns := [], harness := (true, "64fe966638a037c42fbedd77eacaf4a1d3bd5f173d055ec23bf985108cd9ba7e"), looks := false }, kinds := [], alts := [], laidByText := true, laidKinds := [.data, .pinned], laidTests := true, laidLooks := .later }
def BlockChecksCardSaid : Prop := Claim7.holds Tryd.pinned (.plain (OpenSpec.ofChange blockChecksSpec)) blockChecksCard

/-- THE TIED CARD OF 'erratalaw05.BlockMay'. -/
def blockMayCard : Claim7 := { stood := { row := blockMayRow, standIns := [], harness := (true, "64fe966638a037c42fbedd77eacaf4a1d3bd5f173d055ec23bf985108cd9ba7e"), looks := false }, kinds := [], alts := [], laidByText := true, laidKinds := [.data, .pinned], laidTests := true, laidLooks := .later }
def BlockMayCardSaid : Prop := Claim7.holds Tryd.pinned (.plain (OpenSpec.ofChange blockMaySpec)) blockMayCard

/-- THE TIED CARD OF 'erratalaw05.BlockParts'. -/
def blockPartsCard : Claim7 := { stood := { row := blockPartsRow, standIns := [], harness := (true, "64fe966638a037c42fbedd77eacaf4a1d3bd5f173d055ec23bf985108cd9ba7e"), looks := false }, kinds := [], alts := [], laidByText := true, laidKinds := [.data, .pinned], laidTests := true, laidLooks := .later }
def BlockPartsCardSaid : Prop := Claim7.holds Tryd.pinned (.plain (OpenSpec.ofChange blockPartsSpec)) blockPartsCard

/-- THE TIED CARD OF 'erratalaw05.BlockOrders'. -/
def blockOrdersCard : Claim7 := { stood := { row := blockOrdersRow, standIns := [], harness := (true, "64fe966638a037c42fbedd77eacaf4a1d3bd5f173d055ec23bf985108cd9ba7e"), looks := false }, kinds := [], alts := [], laidByText := true, laidKinds := [.data, .pinned], laidTests := true, laidLooks := .later }
def BlockOrdersCardSaid : Prop := Claim7.holds Tryd.pinned (.plain (OpenSpec.ofChange blockOrdersSpec)) blockOrdersCard

/-- THE TIED CARD OF 'erratalaw05.BlockLone'. -/
def blockLoneCard : Claim7 := { stood := { row := blockLoneRow, standIns := [], harness := (true, "64fe966638a037c42fbedd77eacaf4a1d3bd5f173d055ec23bf985108cd9ba7e"), looks := false }, kinds := [], alts := [], laidByText := true, laidKinds := [.data, .pinned], laidTests := true, laidLooks := .later }
def BlockLoneCardSaid : Prop := Claim7.holds Tryd.pinned (.plain (OpenSpec.ofChange blockLoneSpec)) blockLoneCard

/-- THE SECOND FORM's CARD OF 'erratalaw05.BlockSteps'. -/
def blockStepsUptoCard : Claim7 := { stood := { row := blockStepsUptoRow, standIns := [], harness := (true, "64fe966638a037c42fbedd77eacaf4a1d3bd5f173d055ec23bf985108cd9ba7e"), looks := false }, kinds := [], alts := [], laidByText := true, laidKinds := [.data, .pinned], laidTests := true, laidLooks := .later }
def BlockStepsUptoCardSaid : Prop := Claim7.holds Tryd.pinned (.plain (OpenSpec.upto blockStepsSpec)) blockStepsUptoCard

/-- THE SECOND FORM's CARD OF 'erratalaw05.BlockPairs'. -/
def blockPairsUptoCard : Claim7 := { stood := { row := blockPairsUptoRow, standIns := [], harness := (true, "64fe966638a037c42fbedd77eacaf4a1d3bd5f173d055ec23bf985108cd9ba7e"), looks := false }, kinds := [], alts := [], laidByText := true, laidKinds := [.data, .pinned], laidTests := true, laidLooks := .later }
def BlockPairsUptoCardSaid : Prop := Claim7.holds Tryd.pinned (.plain (OpenSpec.upto blockPairsSpec)) blockPairsUptoCard

/-- THE SECOND FORM's CARD OF 'erratalaw05.BlockChecks'. -/
def blockChecksUptoCard : Claim7 := { stood := { row := blockChecksUptoRow, standIns := [], harness := (true, "64fe966638a037c42fbedd77eacaf4a1d3bd5f173d055ec23bf985108cd9ba7e"), looks := false }, kinds := [], alts := [], laidByText := true, laidKinds := [.data, .pinned], laidTests := true, laidLooks := .later }
def BlockChecksUptoCardSaid : Prop := Claim7.holds Tryd.pinned (.plain (OpenSpec.upto blockChecksSpec)) blockChecksUptoCard

/-- THE SECOND FORM's CARD OF 'erratalaw05.BlockMay'. -/
def blockMayUptoCard : Claim7 := { stood := { row := blockMayUptoRow, standIns := [], harness := (true, "64fe966638a037c42fbedd77eacaf4a1d3bd5f173d055ec23bf985108cd9ba7e"), looks := false }, kinds := [], alts := [], laidByText := true, laidKinds := [.data, .pinned], laidTests := true, laidLooks := .later }
def BlockMayUptoCardSaid : Prop := Claim7.holds Tryd.pinned (.plain (OpenSpec.upto blockMaySpec)) blockMayUptoCard

/-- THE SECOND FORM's CARD OF 'erratalaw05.BlockParts'. -/
def blockPartsUptoCard : Claim7 := { stood := { row := blockPartsUptoRow, standIns := [], harness := (true, "64fe966638a037c42fbedd77eacaf4a1d3bd5f173d055ec23bf985108cd9ba7e"), looks := false }, kinds := [], alts := [], laidByText := true, laidKinds := [.data, .pinned], laidTests := true, laidLooks := .later }
def BlockPartsUptoCardSaid : Prop := Claim7.holds Tryd.pinned (.plain (OpenSpec.upto blockPartsSpec)) blockPartsUptoCard

/-- THE SECOND FORM's CARD OF 'erratalaw05.BlockOrders'. -/
def blockOrdersUptoCard : Claim7 := { stood := { row := blockOrdersUptoRow, standIns := [], harness := (true, "64fe966638a037c42fbedd77eacaf4a1d3bd5f173d055ec23bf985108cd9ba7e"), looks := false }, kinds := [], alts := [], laidByText := true, laidKinds := [.data, .pinned], laidTests := true, laidLooks := .later }
def BlockOrdersUptoCardSaid : Prop := Claim7.holds Tryd.pinned (.plain (OpenSpec.upto blockOrdersSpec)) blockOrdersUptoCard

/-- THE SECOND FORM's CARD OF 'erratalaw05.BlockLone'. -/
def blockLoneUptoCard : Claim7 := { stood := { row := blockLoneUptoRow, standIns := [], harness := (true, "64fe966638a037c42fbedd77eacaf4a1d3bd5f173d055ec23bf985108cd9ba7e"), looks := false }, kinds := [], alts := [], laidByText := true, laidKinds := [.data, .pinned], laidTests := true, laidLooks := .later }
def BlockLoneUptoCardSaid : Prop := Claim7.holds Tryd.pinned (.plain (OpenSpec.upto blockLoneSpec)) blockLoneUptoCard
end Rows
end Go.Proofs.YtlicchblafodaaaDoor
