/-
  DERIVED. GIVEN WITH THE SEED: THE CARDS: each row of YtmfmbmlfdlebfaaDoorRows.lean that lists a variable, with what it lists TIED to the program's text (the seventh form; the later family's looks); each row that meets fmt, with fmt's text TOLD by the authors' own Lean function (tested against real Go, not proved from fmt's source: count such statements apart). THE CARD IS WHAT COUNTS. Prove the row's statement (the work); the ties are given (YtmfmbmlfdlebfaaDoorTie.lean); close each card by the builder's one call (the guide's Derived/Test/ToyasCard.lean, 'card_holds'). Laid BY PROGRAM, IN A SANDBOX (cutbox-door.mjs). By AI agents, Wed Nov 11 2026. No macro, syntax, notation, axiom, sorry.
-/
import Derived.Test.YtmfmbmlfdlebfaaDoorRows
import GoSem.ClaimSeven
namespace Go.Proofs.YtmfmbmlfdlebfaaDoor
namespace Rows

/-- THE TIED CARD OF 'erratalaw06.CountTables'. -/
def countTablesCard : Claim7 := { stood := { row := countTablesRow, standIns := [], harness := (true, "9a897d38da6564f959ee862c62409c509221036d884b3fe62187e3723a01a51d"), looks := false }, kinds := [], alts := [], laidByText := true, laidKinds := [.data, .pinned], laidTests := true, laidLooks := .later }
def CountTablesCardSaid : Prop := Claim7.holds Tryd.pinned (.plain (OpenSpec.ofChange countTablesSpec)) countTablesCard

/-- THE TIED CARD OF 'erratalaw06.CountMerges'. -/
def countMergesCard : Claim7 := { stood := { row := countMergesRow, standIns := [], harness := (true, "9a897d38da6564f959ee862c62409c509221036d884b3fe62187e3723a01a51d"), looks := false }, kinds := [], alts := [], laidByText := true, laidKinds := [.data, .pinned], laidTests := true, laidLooks := .later }
def CountMergesCardSaid : Prop := Claim7.holds Tryd.pinned (.plain (OpenSpec.ofChange countMergesSpec)) countMergesCard

/-- THE TIED CARD OF 'erratalaw06.CountPairs'. -/
def countPairsCard : Claim7 := { stood := { row := countPairsRow, standIns := [], harness := (true, "9a897d38da6564f959ee862c62409c509221036d884b3fe62187e3723a01a51d"), looks := false }, kinds := [], alts := [], laidByText := true, laidKinds := [.data, .pinned], laidTests := true, laidLooks := .later }
def CountPairsCardSaid : Prop := Claim7.holds Tryd.pinned (.plain (OpenSpec.ofChange countPairsSpec)) countPairsCard

/-- THE TIED CARD OF 'erratalaw06.CountOrders'. -/
def countOrdersCard : Claim7 := { stood := { row := countOrdersRow, standIns := [], harness := (true, "9a897d38da6564f959ee862c62409c509221036d884b3fe62187e3723a01a51d"), looks := false }, kinds := [], alts := [], laidByText := true, laidKinds := [.data, .pinned], laidTests := true, laidLooks := .later }
def CountOrdersCardSaid : Prop := Claim7.holds Tryd.pinned (.plain (OpenSpec.ofChange countOrdersSpec)) countOrdersCard

/-- THE TIED CARD OF 'erratalaw06.CountParts'. -/
def countPartsCard : Claim7 := { stood := { row := countPartsRow, standIns := [], harness := (true, "9a897d38da6564f959ee862c62409c509221036d884b3fe62187e3723a01a51d"), looks := false }, kinds := [], alts := [], laidByText := true, laidKinds := [.data, .pinned], laidTests := true, laidLooks := .later }
def CountPartsCardSaid : Prop := Claim7.holds Tryd.pinned (.plain (OpenSpec.ofChange countPartsSpec)) countPartsCard

/-- THE TIED CARD OF 'erratalaw06.CountFinds'. -/
def countFindsCard : Claim7 := { stood := { row := countFindsRow, standIns := [], harness := (true, "9a897d38da6564f959ee862c62409c509221036d884b3fe62187e3723a01a51d"), looks := false }, kinds := [], alts := [], laidByText := true, laidKinds := [.data, .pinned], laidTests := true, laidLooks := .later }
def CountFindsCardSaid : Prop := Claim7.holds Tryd.pinned (.plain (OpenSpec.ofChange countFindsSpec)) countFindsCard

/-- THE TIED CARD OF 'erratalaw06.CountLearns'. -/
def countLearnsCard : Claim7 := { stood := { row := countLearnsRow, standIns := [], harness := (true, "9a897d38da6564f959ee862c62409c509221036d884b3fe62187e3723a01a51d"), looks := false }, kinds := [], alts := [], laidByText := true, laidKinds := [.data, .pinned], laidTests := true, laidLooks := .later }
def CountLearnsCardSaid : Prop := Claim7.holds Tryd.pinned (.plain (OpenSpec.ofChange countLearnsSpec)) countLearnsCard

/-- THE SECOND FORM's CARD OF 'erratalaw06.CountTables'. -/
def countTablesUptoCard : Claim7 := { stood := { row := countTablesUptoRow, standIns := [], harness := (true, "9a897d38da6564f959ee862c62409c509221036d884b3fe62187e3723a01a51d"), looks := false }, kinds := [], alts := [], laidByText := true, laidKinds := [.data, .pinned], laidTests := true, laidLooks := .later }
def CountTablesUptoCardSaid : Prop := Claim7.holds Tryd.pinned (.plain (OpenSpec.upto countTablesSpec)) countTablesUptoCard

/-- THE SECOND FORM's CARD OF 'erratalaw06.CountMerges'. -/
def countMergesUptoCard : Claim7 := { stood := { row := countMergesUptoRow, standIns := [], harness := (true, "9a897d38da6564f959ee862c62409c509221036d884b3fe62187e3723a01a51d"), looks := false }, kinds := [], alts := [], laidByText := true, laidKinds := [.data, .pinned], laidTests := true, laidLooks := .later }
def CountMergesUptoCardSaid : Prop := Claim7.holds Tryd.pinned (.plain (OpenSpec.upto countMergesSpec)) countMergesUptoCard

/-- THE SECOND FORM's CARD OF 'erratalaw06.CountPairs'. -/
def countPairsUptoCard : Claim7 := { stood := { row := countPairsUptoRow, standIns := [], harness := (true, "9a897d38da6564f959ee862c62409c509221036d884b3fe62187e3723a01a51d"), looks := false }, kinds := [], alts := [], laidByText := true, laidKinds := [.data, .pinned], laidTests := true, laidLooks := .later }
def CountPairsUptoCardSaid : Prop := Claim7.holds Tryd.pinned (.plain (OpenSpec.upto countPairsSpec)) countPairsUptoCard

/-- THE SECOND FORM's CARD OF 'erratalaw06.CountOrders'. -/
def countOrdersUptoCard : Claim7 := { stood := { row := countOrdersUptoRow, standIns := [], harness := (true, "9a897d38da6564f959ee862c62409c509221036d884b3fe62187e3723a01a51d"), looks := false }, kinds := [], alts := [], laidByText := true, laidKinds := [.data, .pinned], laidTests := true, laidLooks := .later }
def CountOrdersUptoCardSaid : Prop := Claim7.holds Tryd.pinned (.plain (OpenSpec.upto countOrdersSpec)) countOrdersUptoCard

/-- THE SECOND FORM's CARD OF 'erratalaw06.CountParts'. -/
def countPartsUptoCard : Claim7 := { stood := { row := countPartsUptoRow, standIns := [], harness := (true, "9a897d38da6564f959ee862c62409c509221036d884b3fe62187e3723a01a51d"), looks := false }, kinds := [], alts := [], laidByText := true, laidKinds := [.data, .pinned], laidTests := true, laidLooks := .later }
def CountPartsUptoCardSaid : Prop := Claim7.holds Tryd.pinned (.plain (OpenSpec.upto countPartsSpec)) countPartsUptoCard

/-- THE SECOND FORM's CARD OF 'erratalaw06.CountFinds'. -/
def countFindsUptoCard : Claim7 := { stood := { row := countFindsUptoRow, standIns := [], harness := (true, "9a897d38da6564f959ee862c62409c509221036d884b3fe62187e3723a01a51d"), looks := false }, kinds := [], alts := [], laidByText := true, laidKinds := [.data, .pinned], laidTests := true, laidLooks := .later }
def CountFindsUptoCardSaid : Prop := Claim7.holds Tryd.pinned (.plain (OpenSpec.upto countFindsSpec)) countFindsUptoCard

/-- THE SECOND FORM's CARD OF 'erratalaw06.CountLearns'. -/
def countLearnsUptoCard : Claim7 := { stood := { row := countLearnsUptoRow, standIns := [], harness := (true, "9a897d38da6564f959ee862c62409c509221036d884b3fe62187e3723a01a51d"), looks := false }, kinds := [], alts := [], laidByText := true, laidKinds := [.data, .pinned], laidTests := true, laidLooks := .later }
def CountLearnsUptoCardSaid : Prop := Claim7.holds Tryd.pinned (.plain (OpenSpec.upto countLearnsSpec)) countLearnsUptoCard
end Rows
end Go.Proofs.YtmfmbmlfdlebfaaDoor
