/-
  DERIVED. GIVEN WITH THE SEED: THE CARDS: each row of YtnjhbblhlgpgdaaDoorRows.lean that lists a variable, with what it lists TIED to the program's text (the seventh form; the later family's looks); each row that meets fmt, with fmt's text TOLD by the authors' own Lean function (tested against real Go, not proved from fmt's source: count such statements apart). THE CARD IS WHAT COUNTS. Prove the row's statement (the work); the ties are given (YtnjhbblhlgpgdaaDoorTie.lean); close each card by the builder's one call (the guide's Derived/Test/ToyasCard.lean, 'card_holds'). Laid BY PROGRAM, IN A SANDBOX (cutbox-door.mjs). By AI agents, Wed Nov 11 2026. No macro, syntax, notation, axiom, sorry.
-/
import Derived.Test.YtnjhbblhlgpgdaaDoorRows
import GoSem.ClaimSeven
namespace Go.Proofs.YtnjhbblhlgpgdaaDoor
namespace Rows

/-- THE TIED CARD OF 'erratalaw10.DawgStates'. -/
def dawgStatesCard : Claim7 := { stood := { row := dawgStatesRow, standIns := [], harness := (true, "24690e8d57fa81f021c5f70a828f24e895d776eaf66bbecfb1832a52ce19be23"), looks := false }, kinds := [], alts := [], laidByText := true, laidKinds := [.data, .pinned], laidTests := true, laidLooks := .later }
def DawgStatesCardSaid : Prop := Claim7.holds Tryd.pinned (.plain (OpenSpec.ofChange dawgStatesSpec)) dawgStatesCard

/-- THE TIED CARD OF 'erratalaw10.DawgWords'. -/
def dawgWordsCard : Claim7 := { stood := { row := dawgWordsRow, standIns := [], harness := (true, "24690e8d57fa81f021c5f70a828f24e895d776eaf66bbecfb1832a52ce19be23"), looks := false }, kinds := [], alts := [], laidByText := true, laidKinds := [.data, .pinned], laidTests := true, laidLooks := .later }
def DawgWordsCardSaid : Prop := Claim7.holds Tryd.pinned (.plain (OpenSpec.ofChange dawgWordsSpec)) dawgWordsCard

/-- THE TIED CARD OF 'erratalaw10.DawgAll'. -/
def dawgAllCard : Claim7 := { stood := { row := dawgAllRow, standIns := [], harness := (true, "24690e8d57fa81f021c5f70a828f24e895d776eaf66bbecfb1832a52ce19be23"), looks := false }, kinds := [], alts := [], laidByText := true, laidKinds := [.data, .pinned], laidTests := true, laidLooks := .later }
def DawgAllCardSaid : Prop := Claim7.holds Tryd.pinned (.plain (OpenSpec.ofChange dawgAllSpec)) dawgAllCard

/-- THE TIED CARD OF 'erratalaw10.DawgEnds'. -/
def dawgEndsCard : Claim7 := { stood := { row := dawgEndsRow, standIns := [], harness := (true, "24690e8d57fa81f021c5f70a828f24e895d776eaf66bbecfb1832a52ce19be23"), looks := false }, kinds := [], alts := [], laidByText := true, laidKinds := [.data, .pinned], laidTests := true, laidLooks := .later }
def DawgEndsCardSaid : Prop := Claim7.holds Tryd.pinned (.plain (OpenSpec.ofChange dawgEndsSpec)) dawgEndsCard

/-- THE TIED CARD OF 'erratalaw10.DawgLeast'. -/
def dawgLeastCard : Claim7 := { stood := { row := dawgLeastRow, standIns := [], harness := (true, "24690e8d57fa81f021c5f70a828f24e895d776eaf66bbecfb1832a52ce19be23"), looks := false }, kinds := [], alts := [], laidByText := true, laidKinds := [.data, .pinned], laidTests := true, laidLooks := .later }
def DawgLeastCardSaid : Prop := Claim7.holds Tryd.pinned (.plain (OpenSpec.ofChange dawgLeastSpec)) dawgLeastCard

/-- THE TIED CARD OF 'erratalaw10.DawgFreqs'. -/
def dawgFreqsCard : Claim7 := { stood := { row := dawgFreqsRow, standIns := [], harness := (true, "24690e8d57fa81f021c5f70a828f24e895d776eaf66bbecfb1832a52ce19be23"), looks := false }, kinds := [], alts := [], laidByText := true, laidKinds := [.data, .pinned], laidTests := true, laidLooks := .later }
def DawgFreqsCardSaid : Prop := Claim7.holds Tryd.pinned (.plain (OpenSpec.ofChange dawgFreqsSpec)) dawgFreqsCard

/-- THE TIED CARD OF 'erratalaw10.DawgMore'. -/
def dawgMoreCard : Claim7 := { stood := { row := dawgMoreRow, standIns := [], harness := (true, "24690e8d57fa81f021c5f70a828f24e895d776eaf66bbecfb1832a52ce19be23"), looks := false }, kinds := [], alts := [], laidByText := true, laidKinds := [.data, .pinned], laidTests := true, laidLooks := .later }
def DawgMoreCardSaid : Prop := Claim7.holds Tryd.pinned (.plain (OpenSpec.ofChange dawgMoreSpec)) dawgMoreCard

/-- THE SECOND FORM's CARD OF 'erratalaw10.DawgStates'. -/
def dawgStatesUptoCard : Claim7 := { stood := { row := dawgStatesUptoRow, standIns := [], harness := (true, "24690e8d57fa81f021c5f70a828f24e895d776eaf66bbecfb1832a52ce19be23"), looks := false }, kinds := [], alts := [], laidByText := true, laidKinds := [.data, .pinned], laidTests := true, laidLooks := .later }
def DawgStatesUptoCardSaid : Prop := Claim7.holds Tryd.pinned (.plain (OpenSpec.upto dawgStatesSpec)) dawgStatesUptoCard

/-- THE SECOND FORM's CARD OF 'erratalaw10.DawgWords'. -/
def dawgWordsUptoCard : Claim7 := { stood := { row := dawgWordsUptoRow, standIns := [], harness := (true, "24690e8d57fa81f021c5f70a828f24e895d776eaf66bbecfb1832a52ce19be23"), looks := false }, kinds := [], alts := [], laidByText := true, laidKinds := [.data, .pinned], laidTests := true, laidLooks := .later }
def DawgWordsUptoCardSaid : Prop := Claim7.holds Tryd.pinned (.plain (OpenSpec.upto dawgWordsSpec)) dawgWordsUptoCard

/-- THE SECOND FORM's CARD OF 'erratalaw10.DawgAll'. -/
def dawgAllUptoCard : Claim7 := { stood := { row := dawgAllUptoRow, standIns := [], harness := (true, "24690e8d57fa81f021c5f70a828f24e895d776eaf66bbecfb1832a52ce19be23"), looks := false }, kinds := [], alts := [], laidByText := true, laidKinds := [.data, .pinned], laidTests := true, laidLooks := .later }
def DawgAllUptoCardSaid : Prop := Claim7.holds Tryd.pinned (.plain (OpenSpec.upto dawgAllSpec)) dawgAllUptoCard

/-- THE SECOND FORM's CARD OF 'erratalaw10.DawgEnds'. -/
def dawgEndsUptoCard : Claim7 := { stood := { row := dawgEndsUptoRow, standIns := [], harness := (true, "24690e8d57fa81f021c5f70a828f24e895d776eaf66bbecfb1832a52ce19be23"), looks := false }, kinds := [], alts := [], laidByText := true, laidKinds := [.data, .pinned], laidTests := true, laidLooks := .later }
def DawgEndsUptoCardSaid : Prop := Claim7.holds Tryd.pinned (.plain (OpenSpec.upto dawgEndsSpec)) dawgEndsUptoCard

/-- THE SECOND FORM's CARD OF 'erratalaw10.DawgLeast'. -/
def dawgLeastUptoCard : Claim7 := { stood := { row := dawgLeastUptoRow, standIns := [], harness := (true, "24690e8d57fa81f021c5f70a828f24e895d776eaf66bbecfb1832a52ce19be23"), looks := false }, kinds := [], alts := [], laidByText := true, laidKinds := [.data, .pinned], laidTests := true, laidLooks := .later }
def DawgLeastUptoCardSaid : Prop := Claim7.holds Tryd.pinned (.plain (OpenSpec.upto dawgLeastSpec)) dawgLeastUptoCard

/-- THE SECOND FORM's CARD OF 'erratalaw10.DawgFreqs'. -/
def dawgFreqsUptoCard : Claim7 := { stood := { row := dawgFreqsUptoRow, standIns := [], harness := (true, "24690e8d57fa81f021c5f70a828f24e895d776eaf66bbecfb1832a52ce19be23"), looks := false }, kinds := [], alts := [], laidByText := true, laidKinds := [.data, .pinned], laidTests := true, laidLooks := .later }
def DawgFreqsUptoCardSaid : Prop := Claim7.holds Tryd.pinned (.plain (OpenSpec.upto dawgFreqsSpec)) dawgFreqsUptoCard

/-- THE SECOND FORM's CARD OF 'erratalaw10.DawgMore'. -/
def dawgMoreUptoCard : Claim7 := { stood := { row := dawgMoreUptoRow, standIns := [], harness := (true, "24690e8d57fa81f021c5f70a828f24e895d776eaf66bbecfb1832a52ce19be23"), looks := false }, kinds := [], alts := [], laidByText := true, laidKinds := [.data, .pinned], laidTests := true, laidLooks := .later }
def DawgMoreUptoCardSaid : Prop := Claim7.holds Tryd.pinned (.plain (OpenSpec.upto dawgMoreSpec)) dawgMoreUptoCard
end Rows
end Go.Proofs.YtnjhbblhlgpgdaaDoor
