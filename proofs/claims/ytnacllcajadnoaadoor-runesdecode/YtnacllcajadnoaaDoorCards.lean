/-
  DERIVED. GIVEN WITH THE SEED: THE CARDS: each row of YtnacllcajadnoaaDoorRows.lean that lists a variable, with what it lists TIED to the program's text (the seventh form; the later family's looks); each row that meets fmt, with fmt's text TOLD by the authors' own Lean function (tested against real Go, not proved from fmt's source: count such statements apart). THE CARD IS WHAT COUNTS. Prove the row's statement (the work); the ties are given (YtnacllcajadnoaaDoorTie.lean); close each card by the builder's one call (the guide's Derived/Test/ToyasCard.lean, 'card_holds'). Laid BY PROGRAM, IN A SANDBOX (cutbox-door.mjs). By AI agents, Wed Nov 11 2026. No macro, syntax, notation, axiom, sorry.
-/
import Derived.Test.YtnacllcajadnoaaDoorRows
import GoSem.ClaimSeven
namespace Go.Proofs.YtnacllcajadnoaaDoor
namespace Rows

/-- THE TIED CARD OF 'erratalaw01.RunesDecode'. -/
def runesDecodeCard : Claim7 := { stood := { row := runesDecodeRow, standIns := [], harness := (true, "967c73b24b61146bf8294b6b79a1213330a92c498e7bcfe6bdcca5e80783593f"), looks := false }, kinds := [], alts := [], laidByText := true, laidKinds := [.data, .pinned], laidTests := true, laidLooks := .later }
def RunesDecodeCardSaid : Prop := Claim7.holds Tryd.pinned (.plain (OpenSpec.ofChange runesDecodeSpec)) runesDecodeCard

/-- THE TIED CARD OF 'erratalaw01.RunesEncode'. -/
def runesEncodeCard : Claim7 := { stood := { row := runesEncodeRow, standIns := [], harness := (true, "967c73b24b61146bf8294b6b79a1213330a92c498e7bcfe6bdcca5e80783593f"), looks := false }, kinds := [], alts := [], laidByText := true, laidKinds := [.data, .pinned], laidTests := true, laidLooks := .later }
def RunesEncodeCardSaid : Prop := Claim7.holds Tryd.pinned (.plain (OpenSpec.ofChange runesEncodeSpec)) runesEncodeCard

/-- THE TIED CARD OF 'erratalaw01.RunesBack'. -/
def runesBackCard : Claim7 := { stood := { row := runesBackRow, standIns := [], harness := (true, "967c73b24b61146bf8294b6b79a1213330a92c498e7bcfe6bdcca5e80783593f"), looks := false }, kinds := [], alts := [], laidByText := true, laidKinds := [.data, .pinned], laidTests := true, laidLooks := .later }
def RunesBackCardSaid : Prop := Claim7.holds Tryd.pinned (.plain (OpenSpec.ofChange runesBackSpec)) runesBackCard

/-- THE TIED CARD OF 'erratalaw01.RunesJoin'. -/
def runesJoinCard : Claim7 := { stood := { row := runesJoinRow, standIns := [], harness := (true, "967c73b24b61146bf8294b6b79a1213330a92c498e7bcfe6bdcca5e80783593f"), looks := false }, kinds := [], alts := [], laidByText := true, laidKinds := [.data, .pinned], laidTests := true, laidLooks := .later }
def RunesJoinCardSaid : Prop := Claim7.holds Tryd.pinned (.plain (OpenSpec.ofChange runesJoinSpec)) runesJoinCard

/-- THE TIED CARD OF 'erratalaw01.RunesOrder'. -/
def runesOrderCard : Claim7 := { stood := { row := runesOrderRow, standIns := [], harness := (true, "967c73b24b61146bf8294b6b79a1213330a92c498e7bcfe6bdcca5e80783593f"), looks := false }, kinds := [], alts := [], laidByText := true, laidKinds := [.data, .pinned], laidTests := true, laidLooks := .later }
def RunesOrderCardSaid : Prop := Claim7.holds Tryd.pinned (.plain (OpenSpec.ofChange runesOrderSpec)) runesOrderCard

/-- THE TIED CARD OF 'erratalaw01.RunesTokens'. -/
def runesTokensCard : Claim7 := { stood := { row := runesTokensRow, standIns := [], harness := (true, "967c73b24b61146bf8294b6b79a1213330a92c498e7bcfe6bdcca5e80783593f"), looks := false }, kinds := [], alts := [], laidByText := true, laidKinds := [.data, .pinned], laidTests := true, laidLooks := .later }
def RunesTokensCardSaid : Prop := Claim7.holds Tryd.pinned (.plain (OpenSpec.ofChange runesTokensSpec)) runesTokensCard

/-- THE SECOND FORM's CARD OF 'erratalaw01.RunesDecode'. -/
def runesDecodeUptoCard : Claim7 := { stood := { row := runesDecodeUptoRow, standIns := [], harness := (true, "967c73b24b61146bf8294b6b79a1213330a92c498e7bcfe6bdcca5e80783593f"), looks := false }, kinds := [], alts := [], laidByText := true, laidKinds := [.data, .pinned], laidTests := true, laidLooks := .later }
def RunesDecodeUptoCardSaid : Prop := Claim7.holds Tryd.pinned (.plain (OpenSpec.upto runesDecodeSpec)) runesDecodeUptoCard

/-- THE SECOND FORM's CARD OF 'erratalaw01.RunesEncode'. -/
def runesEncodeUptoCard : Claim7 := { stood := { row := runesEncodeUptoRow, standIns := [], harness := (true, "967c73b24b61146bf8294b6b79a1213330a92c498e7bcfe6bdcca5e80783593f"), looks := false }, kinds := [], alts := [], laidByText := true, laidKinds := [.data, .pinned], laidTests := true, laidLooks := .later }
def RunesEncodeUptoCardSaid : Prop := Claim7.holds Tryd.pinned (.plain (OpenSpec.upto runesEncodeSpec)) runesEncodeUptoCard

/-- THE SECOND FORM's CARD OF 'erratalaw01.RunesBack'. -/
def runesBackUptoCard : Claim7 := { stood := { row := runesBackUptoRow, standIns := [], harness := (true, "967c73b24b61146bf8294b6b79a1213330a92c498e7bcfe6bdcca5e80783593f"), looks := false }, kinds := [], alts := [], laidByText := true, laidKinds := [.data, .pinned], laidTests := true, laidLooks := .later }
def RunesBackUptoCardSaid : Prop := Claim7.holds Tryd.pinned (.plain (OpenSpec.upto runesBackSpec)) runesBackUptoCard

/-- THE SECOND FORM's CARD OF 'erratalaw01.RunesJoin'. -/
def runesJoinUptoCard : Claim7 := { stood := { row := runesJoinUptoRow, standIns := [], harness := (true, "967c73b24b61146bf8294b6b79a1213330a92c498e7bcfe6bdcca5e80783593f"), looks := false }, kinds := [], alts := [], laidByText := true, laidKinds := [.data, .pinned], laidTests := true, laidLooks := .later }
def RunesJoinUptoCardSaid : Prop := Claim7.holds Tryd.pinned (.plain (OpenSpec.upto runesJoinSpec)) runesJoinUptoCard

/-- THE SECOND FORM's CARD OF 'erratalaw01.RunesOrder'. -/
def runesOrderUptoCard : Claim7 := { stood := { row := runesOrderUptoRow, standIns := [], harness := (true, "967c73b24b61146bf8294b6b79a1213330a92c498e7bcfe6bdcca5e80783593f"), looks := false }, kinds := [], alts := [], laidByText := true, laidKinds := [.data, .pinned], laidTests := true, laidLooks := .later }
def RunesOrderUptoCardSaid : Prop := Claim7.holds Tryd.pinned (.plain (OpenSpec.upto runesOrderSpec)) runesOrderUptoCard

/-- THE SECOND FORM's CARD OF 'erratalaw01.RunesTokens'. -/
def runesTokensUptoCard : Claim7 := { stood := { row := runesTokensUptoRow, standIns := [], harness := (true, "967c73b24b61146bf8294b6b79a1213330a92c498e7bcfe6bdcca5e80783593f"), looks := false }, kinds := [], alts := [], laidByText := true, laidKinds := [.data, .pinned], laidTests := true, laidLooks := .later }
def RunesTokensUptoCardSaid : Prop := Claim7.holds Tryd.pinned (.plain (OpenSpec.upto runesTokensSpec)) runesTokensUptoCard
end Rows
end Go.Proofs.YtnacllcajadnoaaDoor
