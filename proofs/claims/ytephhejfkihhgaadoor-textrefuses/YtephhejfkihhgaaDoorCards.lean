/-
  DERIVED. GIVEN WITH THE SEED: THE CARDS: each row of YtephhejfkihhgaaDoorRows.lean that lists a variable, with what it lists TIED to the program's text (the seventh form; the later family's looks); each row that meets fmt, with fmt's text TOLD by the authors' own Lean function (tested against real Go, not proved from fmt's source: count such statements apart). THE CARD IS WHAT COUNTS. Prove the row's statement (the work); the ties are given (YtephhejfkihhgaaDoorTie.lean); close each card by the builder's one call (the guide's Derived/Test/ToyasCard.lean, 'card_holds'). Laid BY PROGRAM, IN A SANDBOX (cutbox-door.mjs). By AI agents, Wed Nov 11 2026. No macro, syntax, notation, axiom, sorry.
-/
import Derived.Test.YtephhejfkihhgaaDoorRows
import GoSem.ClaimSeven
namespace Go.Proofs.YtephhejfkihhgaaDoor
namespace Rows

/-- THE TIED CARD OF 'erratalaw02.TextSpans'. -/
def textSpansCard : Claim7 := { stood := { row := textSpansRow, standIns := [], harness := (true, "98b116be69ac321b6f1735e27f957f47f5a353bb5e1cfd051b79ef6a167c7af3"), looks := false }, kinds := [], alts := [], laidByText := true, laidKinds := [.data, .pinned], laidTests := true, laidLooks := .later }
def TextSpansCardSaid : Prop := Claim7.holds Tryd.pinned (.plain (OpenSpec.ofChange textSpansSpec)) textSpansCard

/-- THE TIED CARD OF 'erratalaw02.TextJoins'. -/
def textJoinsCard : Claim7 := { stood := { row := textJoinsRow, standIns := [], harness := (true, "98b116be69ac321b6f1735e27f957f47f5a353bb5e1cfd051b79ef6a167c7af3"), looks := false }, kinds := [], alts := [], laidByText := true, laidKinds := [.data, .pinned], laidTests := true, laidLooks := .later }
def TextJoinsCardSaid : Prop := Claim7.holds Tryd.pinned (.plain (OpenSpec.ofChange textJoinsSpec)) textJoinsCard

/-- THE TIED CARD OF 'erratalaw02.TextParts'. -/
def textPartsCard : Claim7 := { stood := { row := textPartsRow, standIns := [], harness := (true, "98b116be69ac321b6f1735e27f957f47f5a353bb5e1cfd051b79ef6a167c7af3"), looks := false }, kinds := [], alts := [], laidByText := true, laidKinds := [.data, .pinned], laidTests := true, laidLooks := .later }
def TextPartsCardSaid : Prop := Claim7.holds Tryd.pinned (.plain (OpenSpec.ofChange textPartsSpec)) textPartsCard

/-- THE TIED CARD OF 'erratalaw02.TextBack'. -/
def textBackCard : Claim7 := { stood := { row := textBackRow, standIns := [], harness := (true, "98b116be69ac321b6f1735e27f957f47f5a353bb5e1cfd051b79ef6a167c7af3"), looks := false }, kinds := [], alts := [], laidByText := true, laidKinds := [.data, .pinned], laidTests := true, laidLooks := .later }
def TextBackCardSaid : Prop := Claim7.holds Tryd.pinned (.plain (OpenSpec.ofChange textBackSpec)) textBackCard

/-- THE TIED CARD OF 'erratalaw02.TextBetween'. -/
def textBetweenCard : Claim7 := { stood := { row := textBetweenRow, standIns := [], harness := (true, "98b116be69ac321b6f1735e27f957f47f5a353bb5e1cfd051b79ef6a167c7af3"), looks := false }, kinds := [], alts := [], laidByText := true, laidKinds := [.data, .pinned], laidTests := true, laidLooks := .later }
def TextBetweenCardSaid : Prop := Claim7.holds Tryd.pinned (.plain (OpenSpec.ofChange textBetweenSpec)) textBetweenCard

/-- THE TIED CARD OF 'erratalaw02.TextRefuses'. -/
def textRefusesCard : Claim7 := { stood := { row := textRefusesRow, standIns := [], harness := (true, "98b116be69ac321b6f1735e27f957f47f5a353bb5e1cfd051b79ef6a167c7af3"), looks := false }, kinds := [], alts := [], laidByText := true, laidKinds := [.data, .pinned], laidTests := true, laidLooks := .later }
def TextRefusesCardSaid : Prop := Claim7.holds Tryd.pinned (.plain (OpenSpec.ofChange textRefusesSpec)) textRefusesCard

/-- THE TIED CARD OF 'erratalaw02.TextLetters'. -/
def textLettersCard : Claim7 := { stood := { row := textLettersRow, standIns := [], harness := (true, "98b116be69ac321b6f1735e27f957f47f5a353bb5e1cfd051b79ef6a167c7af3"), looks := false }, kinds := [], alts := [], laidByText := true, laidKinds := [.data, .pinned], laidTests := true, laidLooks := .later }
def TextLettersCardSaid : Prop := Claim7.holds Tryd.pinned (.plain (OpenSpec.ofChange textLettersSpec)) textLettersCard

/-- THE SECOND FORM's CARD OF 'erratalaw02.TextSpans'. -/
def textSpansUptoCard : Claim7 := { stood := { row := textSpansUptoRow, standIns := [], harness := (true, "98b116be69ac321b6f1735e27f957f47f5a353bb5e1cfd051b79ef6a167c7af3"), looks := false }, kinds := [], alts := [], laidByText := true, laidKinds := [.data, .pinned], laidTests := true, laidLooks := .later }
def TextSpansUptoCardSaid : Prop := Claim7.holds Tryd.pinned (.plain (OpenSpec.upto textSpansSpec)) textSpansUptoCard

/-- THE SECOND FORM's CARD OF 'erratalaw02.TextJoins'. -/
def textJoinsUptoCard : Claim7 := { stood := { row := textJoinsUptoRow, standIns := [], harness := (true, "98b116be69ac321b6f1735e27f957f47f5a353bb5e1cfd051b79ef6a167c7af3"), looks := false }, kinds := [], alts := [], laidByText := true, laidKinds := [.data, .pinned], laidTests := true, laidLooks := .later }
def TextJoinsUptoCardSaid : Prop := Claim7.holds Tryd.pinned (.plain (OpenSpec.upto textJoinsSpec)) textJoinsUptoCard

/-- THE SECOND FORM's CARD OF 'erratalaw02.TextParts'. -/
def textPartsUptoCard : Claim7 := { stood := { row := textPartsUptoRow, standIns := [], harness := (true, "98b116be69ac321b6f1735e27f957f47f5a353bb5e1cfd051b79ef6a167c7af3"), looks := false }, kinds := [], alts := [], laidByText := true, laidKinds := [.data, .pinned], laidTests := true, laidLooks := .later }
def TextPartsUptoCardSaid : Prop := Claim7.holds Tryd.pinned (.plain (OpenSpec.upto textPartsSpec)) textPartsUptoCard

/-- THE SECOND FORM's CARD OF 'erratalaw02.TextBack'. -/
def textBackUptoCard : Claim7 := { stood := { row := textBackUptoRow, standIns := [], harness := (true, "98b116be69ac321b6f1735e27f957f47f5a353bb5e1cfd051b79ef6a167c7af3"), looks := false }, kinds := [], alts := [], laidByText := true, laidKinds := [.data, .pinned], laidTests := true, laidLooks := .later }
def TextBackUptoCardSaid : Prop := Claim7.holds Tryd.pinned (.plain (OpenSpec.upto textBackSpec)) textBackUptoCard

/-- THE SECOND FORM's CARD OF 'erratalaw02.TextBetween'. -/
def textBetweenUptoCard : Claim7 := { stood := { row := textBetweenUptoRow, standIns := [], harness := (true, "98b116be69ac321b6f1735e27f957f47f5a353bb5e1cfd051b79ef6a167c7af3"), looks := false }, kinds := [], alts := [], laidByText := true, laidKinds := [.data, .pinned], laidTests := true, laidLooks := .later }
def TextBetweenUptoCardSaid : Prop := Claim7.holds Tryd.pinned (.plain (OpenSpec.upto textBetweenSpec)) textBetweenUptoCard

/-- THE SECOND FORM's CARD OF 'erratalaw02.TextRefuses'. -/
def textRefusesUptoCard : Claim7 := { stood := { row := textRefusesUptoRow, standIns := [], harness := (true, "98b116be69ac321b6f1735e27f957f47f5a353bb5e1cfd051b79ef6a167c7af3"), looks := false }, kinds := [], alts := [], laidByText := true, laidKinds := [.data, .pinned], laidTests := true, laidLooks := .later }
def TextRefusesUptoCardSaid : Prop := Claim7.holds Tryd.pinned (.plain (OpenSpec.upto textRefusesSpec)) textRefusesUptoCard

/-- THE SECOND FORM's CARD OF 'erratalaw02.TextLetters'. -/
def textLettersUptoCard : Claim7 := { stood := { row := textLettersUptoRow, standIns := [], harness := (true, "98b116be69ac321b6f1735e27f957f47f5a353bb5e1cfd051b79ef6a167c7af3"), looks := false }, kinds := [], alts := [], laidByText := true, laidKinds := [.data, .pinned], laidTests := true, laidLooks := .later }
def TextLettersUptoCardSaid : Prop := Claim7.holds Tryd.pinned (.plain (OpenSpec.upto textLettersSpec)) textLettersUptoCard
end Rows
end Go.Proofs.YtephhejfkihhgaaDoor
