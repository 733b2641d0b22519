/-
  DERIVED. GIVEN WITH THE SEED: THE CARDS: each row of YtdlmjoijadkphaaDoorRows.lean that lists a variable, with what it lists TIED to the program's text (the seventh form; the later family's looks); each row that meets fmt, with fmt's text TOLD by the authors' own Lean function (tested against real Go, not proved from fmt's source: count such statements apart). THE CARD IS WHAT COUNTS. Prove the row's statement (the work); the ties are given (YtdlmjoijadkphaaDoorTie.lean); close each card by the builder's one call (the guide's Derived/Test/ToyasCard.lean, 'card_holds'). Laid BY PROGRAM, IN A SANDBOX (cutbox-door.mjs). By AI agents, Wed Nov 11 2026. No macro, syntax, notation, axiom, sorry.
-/
import Derived.Test.YtdlmjoijadkphaaDoorRows
import GoSem.ClaimSeven
namespace Go.Proofs.YtdlmjoijadkphaaDoor
namespace Rows

/-- THE TIED CARD OF 'erratalaw09.LexiconIs'. -/
def lexiconIsCard : Claim7 := { stood := { row := lexiconIsRow, standIns := [], harness := (true, "2f447604225bfd59bffcc88dba82b6142b42ee85a16453cf7652a0452f399e7e"), looks := false }, kinds := [], alts := [], laidByText := true, laidKinds := [.data, .pinned], laidTests := true, laidLooks := .later }
def LexiconIsCardSaid : Prop := Claim7.holds Tryd.pinned (.plain (OpenSpec.ofChange lexiconIsSpec)) lexiconIsCard

/-- THE TIED CARD OF 'erratalaw09.LexiconFinds'. -/
def lexiconFindsCard : Claim7 := { stood := { row := lexiconFindsRow, standIns := [], harness := (true, "2f447604225bfd59bffcc88dba82b6142b42ee85a16453cf7652a0452f399e7e"), looks := false }, kinds := [], alts := [], laidByText := true, laidKinds := [.data, .pinned], laidTests := true, laidLooks := .later }
def LexiconFindsCardSaid : Prop := Claim7.holds Tryd.pinned (.plain (OpenSpec.ofChange lexiconFindsSpec)) lexiconFindsCard

/-- THE TIED CARD OF 'erratalaw09.LexiconOnce'. -/
def lexiconOnceCard : Claim7 := { stood := { row := lexiconOnceRow, standIns := [], harness := (true, "2f447604225bfd59bffcc88dba82b6142b42ee85a16453cf7652a0452f399e7e"), looks := false }, kinds := [], alts := [], laidByText := true, laidKinds := [.data, .pinned], laidTests := true, laidLooks := .later }
def LexiconOnceCardSaid : Prop := Claim7.holds Tryd.pinned (.plain (OpenSpec.ofChange lexiconOnceSpec)) lexiconOnceCard

/-- THE TIED CARD OF 'erratalaw09.LexiconAll'. -/
def lexiconAllCard : Claim7 := { stood := { row := lexiconAllRow, standIns := [], harness := (true, "2f447604225bfd59bffcc88dba82b6142b42ee85a16453cf7652a0452f399e7e"), looks := false }, kinds := [], alts := [], laidByText := true, laidKinds := [.data, .pinned], laidTests := true, laidLooks := .later }
def LexiconAllCardSaid : Prop := Claim7.holds Tryd.pinned (.plain (OpenSpec.ofChange lexiconAllSpec)) lexiconAllCard

/-- THE TIED CARD OF 'erratalaw09.LexiconBegins'. -/
def lexiconBeginsCard : Claim7 := { stood := { row := lexiconBeginsRow, standIns := [], harness := (true, "2f447604225bfd59bffcc88dba82b6142b42ee85a16453cf7652a0452f399e7e"), looks := false }, kinds := [], alts := [], laidByText := true, laidKinds := [.data, .pinned], laidTests := true, laidLooks := .later }
def LexiconBeginsCardSaid : Prop := Claim7.holds Tryd.pinned (.plain (OpenSpec.ofChange lexiconBeginsSpec)) lexiconBeginsCard

/-- THE TIED CARD OF 'erratalaw09.LexiconBest'. -/
def lexiconBestCard : Claim7 := { stood := { row := lexiconBestRow, standIns := [], harness := (true, "2f447604225bfd59bffcc88dba82b6142b42ee85a16453cf7652a0452f399e7e"), looks := false }, kinds := [], alts := [], laidByText := true, laidKinds := [.data, .pinned], laidTests := true, laidLooks := .later }
def LexiconBestCardSaid : Prop := Claim7.holds Tryd.pinned (.plain (OpenSpec.ofChange lexiconBestSpec)) lexiconBestCard

/-- THE SECOND FORM's CARD OF 'erratalaw09.LexiconIs'. -/
def lexiconIsUptoCard : Claim7 := { stood := { row := lexiconIsUptoRow, standIns := [], harness := (true, "2f447604225bfd59bffcc88dba82b6142b42ee85a16453cf7652a0452f399e7e"), looks := false }, kinds := [], alts := [], laidByText := true, laidKinds := [.data, .pinned], laidTests := true, laidLooks := .later }
def LexiconIsUptoCardSaid : Prop := Claim7.holds Tryd.pinned (.plain (OpenSpec.upto lexiconIsSpec)) lexiconIsUptoCard

/-- THE SECOND FORM's CARD OF 'erratalaw09.LexiconFinds'. -/
def lexiconFindsUptoCard : Claim7 := { stood := { row := lexiconFindsUptoRow, standIns := [], harness := (true, "2f447604225bfd59bffcc88dba82b6142b42ee85a16453cf7652a0452f399e7e"), looks := false }, kinds := [], alts := [], laidByText := true, laidKinds := [.data, .pinned], laidTests := true, laidLooks := .later }
def LexiconFindsUptoCardSaid : Prop := Claim7.holds Tryd.pinned (.plain (OpenSpec.upto lexiconFindsSpec)) lexiconFindsUptoCard

/-- THE SECOND FORM's CARD OF 'erratalaw09.LexiconOnce'. -/
def lexiconOnceUptoCard : Claim7 := { stood := { row := lexiconOnceUptoRow, standIns := [], harness := (true, "2f447604225bfd59bffcc88dba82b6142b42ee85a16453cf7652a0452f399e7e"), looks := false }, kinds := [], alts := [], laidByText := true, laidKinds := [.data, .pinned], laidTests := true, laidLooks := .later }
def LexiconOnceUptoCardSaid : Prop := Claim7.holds Tryd.pinned (.plain (OpenSpec.upto lexiconOnceSpec)) lexiconOnceUptoCard

/-- THE SECOND FORM's CARD OF 'erratalaw09.LexiconAll'. -/
def lexiconAllUptoCard : Claim7 := { stood := { row := lexiconAllUptoRow, standIns := [], harness := (true, "2f447604225bfd59bffcc88dba82b6142b42ee85a16453cf7652a0452f399e7e"), looks := false }, kinds := [], alts := [], laidByText := true, laidKinds := [.data, .pinned], laidTests := true, laidLooks := .later }
def LexiconAllUptoCardSaid : Prop := Claim7.holds Tryd.pinned (.plain (OpenSpec.upto lexiconAllSpec)) lexiconAllUptoCard

/-- THE SECOND FORM's CARD OF 'erratalaw09.LexiconBegins'. -/
def lexiconBeginsUptoCard : Claim7 := { stood := { row := lexiconBeginsUptoRow, standIns := [], harness := (true, "2f447604225bfd59bffcc88dba82b6142b42ee85a16453cf7652a0452f399e7e"), looks := false }, kinds := [], alts := [], laidByText := true, laidKinds := [.data, .pinned], laidTests := true, laidLooks := .later }
def LexiconBeginsUptoCardSaid : Prop := Claim7.holds Tryd.pinned (.plain (OpenSpec.upto lexiconBeginsSpec)) lexiconBeginsUptoCard

/-- THE SECOND FORM's CARD OF 'erratalaw09.LexiconBest'. -/
def lexiconBestUptoCard : Claim7 := { stood := { row := lexiconBestUptoRow, standIns := [], harness := (true, "2f447604225bfd59bffcc88dba82b6142b42ee85a16453cf7652a0452f399e7e"), looks := false }, kinds := [], alts := [], laidByText := true, laidKinds := [.data, .pinned], laidTests := true, laidLooks := .later }
def LexiconBestUptoCardSaid : Prop := Claim7.holds Tryd.pinned (.plain (OpenSpec.upto lexiconBestSpec)) lexiconBestUptoCard
end Rows
end Go.Proofs.YtdlmjoijadkphaaDoor
