/-
  DERIVED. GIVEN WITH THE SEED: THE CARDS: each row of YthigbnklekdemaaDoorRows.lean that lists a variable, with what it lists TIED to the program's text (the seventh form; the later family's looks); each row that meets fmt, with fmt's text TOLD by the authors' own Lean function (tested against real Go, not proved from fmt's source: count such statements apart). THE CARD IS WHAT COUNTS. Prove the row's statement (the work); the ties are given (YthigbnklekdemaaDoorTie.lean); close each card by the builder's one call (the guide's Derived/Test/ToyasCard.lean, 'card_holds'). Laid BY PROGRAM, IN A SANDBOX (cutbox-door.mjs). By AI agents, Wed Nov 11 2026. No macro, syntax, notation, axiom, sorry.
-/
import Derived.Test.YthigbnklekdemaaDoorRows
import GoSem.ClaimSeven
namespace Go.Proofs.YthigbnklekdemaaDoor
namespace Rows

/-- THE TIED CARD OF 'erratalaw04.AlignSteps'. -/
def alignStepsCard : Claim7 := { stood := { row := alignStepsRow, standIns := [], harness := (true, "3864147e7f978f3854c4fe18d718fb905e657ef1f80e2047de92a5246cd53d76"), looks := false }, kinds := [], alts := [], laidByText := true, laidKinds := [.data, .pinned], laidTests := true, laidLooks := .later }
def AlignStepsCardSaid : Prop := Claim7.holds Tryd.pinned (.plain (OpenSpec.ofChange alignStepsSpec)) alignStepsCard

/-- THE TIED CARD OF 'erratalaw04.AlignReads'. -/
def alignReadsCard : Claim7 := { stood := { row := alignReadsRow, standIns := [], harness := (true, "3864147e7f978f3854c4fe18d718fb905e657ef1f80e2047de92a5246cd53d76"), looks := false }, kinds := [], alts := [], laidByText := true, laidKinds := [.data, .pinned], laidTests := true, laidLooks := .later }
def AlignReadsCardSaid : Prop := Claim7.holds Tryd.pinned (.plain (OpenSpec.ofChange alignReadsSpec)) alignReadsCard

/-- THE TIED CARD OF 'erratalaw04.AlignBack'. -/
def alignBackCard : Claim7 := { stood := { row := alignBackRow, standIns := [], harness := (true, "3864147e7f978f3854c4fe18d718fb905e657ef1f80e2047de92a5246cd53d76"), looks := false }, kinds := [], alts := [], laidByText := true, laidKinds := [.data, .pinned], laidTests := true, laidLooks := .later }
def AlignBackCardSaid : Prop := Claim7.holds Tryd.pinned (.plain (OpenSpec.ofChange alignBackSpec)) alignBackCard

/-- THE TIED CARD OF 'erratalaw04.AlignWays'. -/
def alignWaysCard : Claim7 := { stood := { row := alignWaysRow, standIns := [], harness := (true, "3864147e7f978f3854c4fe18d718fb905e657ef1f80e2047de92a5246cd53d76"), looks := false }, kinds := [], alts := [], laidByText := true, laidKinds := [.data, .pinned], laidTests := true, laidLooks := .later }
def AlignWaysCardSaid : Prop := Claim7.holds Tryd.pinned (.plain (OpenSpec.ofChange alignWaysSpec)) alignWaysCard

/-- THE TIED CARD OF 'erratalaw04.AlignEnds'. -/
def alignEndsCard : Claim7 := { stood := { row := alignEndsRow, standIns := [], harness := (true, "3864147e7f978f3854c4fe18d718fb905e657ef1f80e2047de92a5246cd53d76"), looks := false }, kinds := [], alts := [], laidByText := true, laidKinds := [.data, .pinned], laidTests := true, laidLooks := .later }
def AlignEndsCardSaid : Prop := Claim7.holds Tryd.pinned (.plain (OpenSpec.ofChange alignEndsSpec)) alignEndsCard

/-- THE TIED CARD OF 'erratalaw04.AlignPrefers'. -/
def alignPrefersCard : Claim7 := { stood := { row := alignPrefersRow, standIns := [], harness := (true, "3864147e7f978f3854c4fe18d718fb905e657ef1f80e2047de92a5246cd53d76"), looks := false }, kinds := [], alts := [], laidByText := true, laidKinds := [.data, .pinned], laidTests := true, laidLooks := .later }
def AlignPrefersCardSaid : Prop := Claim7.holds Tryd.pinned (.plain (OpenSpec.ofChange alignPrefersSpec)) alignPrefersCard

/-- THE SECOND FORM's CARD OF 'erratalaw04.AlignSteps'. -/
def alignStepsUptoCard : Claim7 := { stood := { row := alignStepsUptoRow, standIns := [], harness := (true, "3864147e7f978f3854c4fe18d718fb905e657ef1f80e2047de92a5246cd53d76"), looks := false }, kinds := [], alts := [], laidByText := true, laidKinds := [.data, .pinned], laidTests := true, laidLooks := .later }
def AlignStepsUptoCardSaid : Prop := Claim7.holds Tryd.pinned (.plain (OpenSpec.upto alignStepsSpec)) alignStepsUptoCard

/-- THE SECOND FORM's CARD OF 'erratalaw04.AlignReads'. -/
def alignReadsUptoCard : Claim7 := { stood := { row := alignReadsUptoRow, standIns := [], harness := (true, "3864147e7f978f3854c4fe18d718fb905e657ef1f80e2047de92a5246cd53d76"), looks := false }, kinds := [], alts := [], laidByText := true, laidKinds := [.data, .pinned], laidTests := true, laidLooks := .later }
def AlignReadsUptoCardSaid : Prop := Claim7.holds Tryd.pinned (.plain (OpenSpec.upto alignReadsSpec)) alignReadsUptoCard

/-- THE SECOND FORM's CARD OF 'erratalaw04.AlignBack'. -/
def alignBackUptoCard : Claim7 := { stood := { row := alignBackUptoRow, standIns := [], harness := (true, "3864147e7f978f3854c4fe18d718fb905e657ef1f80e2047de92a5246cd53d76"), looks := false }, kinds := [], alts := [], laidByText := true, laidKinds := [.data, .pinned], laidTests := true, laidLooks := .later }
def AlignBackUptoCardSaid : Prop := Claim7.holds Tryd.pinned (.plain (OpenSpec.upto alignBackSpec)) alignBackUptoCard

/-- THE SECOND FORM's CARD OF 'erratalaw04.AlignWays'. -/
def alignWaysUptoCard : Claim7 := { stood := { row := alignWaysUptoRow, standIns := [], harness := (true, "3864147e7f978f3854c4fe18d718fb905e657ef1f80e2047de92a5246cd53d76"), looks := false }, kinds := [], alts := [], laidByText := true, laidKinds := [.data, .pinned], laidTests := true, laidLooks := .later }
def AlignWaysUptoCardSaid : Prop := Claim7.holds Tryd.pinned (.plain (OpenSpec.upto alignWaysSpec)) alignWaysUptoCard

/-- THE SECOND FORM's CARD OF 'erratalaw04.AlignEnds'. -/
def alignEndsUptoCard : Claim7 := { stood := { row := alignEndsUptoRow, standIns := [], harness := (true, "3864147e7f978f3854c4fe18d718fb905e657ef1f80e2047de92a5246cd53d76"), looks := false }, kinds := [], alts := [], laidByText := true, laidKinds := [.data, .pinned], laidTests := true, laidLooks := .later }
def AlignEndsUptoCardSaid : Prop := Claim7.holds Tryd.pinned (.plain (OpenSpec.upto alignEndsSpec)) alignEndsUptoCard

/-- THE SECOND FORM's CARD OF 'erratalaw04.AlignPrefers'. -/
def alignPrefersUptoCard : Claim7 := { stood := { row := alignPrefersUptoRow, standIns := [], harness := (true, "3864147e7f978f3854c4fe18d718fb905e657ef1f80e2047de92a5246cd53d76"), looks := false }, kinds := [], alts := [], laidByText := true, laidKinds := [.data, .pinned], laidTests := true, laidLooks := .later }
def AlignPrefersUptoCardSaid : Prop := Claim7.holds Tryd.pinned (.plain (OpenSpec.upto alignPrefersSpec)) alignPrefersUptoCard
end Rows
end Go.Proofs.YthigbnklekdemaaDoor
