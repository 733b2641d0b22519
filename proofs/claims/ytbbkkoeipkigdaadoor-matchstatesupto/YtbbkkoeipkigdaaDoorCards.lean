/-
  DERIVED. GIVEN WITH THE SEED: THE CARDS: each row of YtbbkkoeipkigdaaDoorRows.lean that lists a variable, with what it lists TIED to the program's text (the seventh form; the later family's looks); each row that meets fmt, with fmt's text TOLD by the authors' own Lean function (tested against real Go, not proved from fmt's source: count such statements apart). THE CARD IS WHAT COUNTS. Prove the row's statement (the work); the ties are given (YtbbkkoeipkigdaaDoorTie.lean); close each card by the builder's one call (the guide's Derived/Test/ToyasCard.lean, 'card_holds'). Laid BY PROGRAM, IN A SANDBOX (cutbox-door.mjs). By AI agents, Wed Nov 11 2026. No macro, syntax, notation, axiom, sorry.
-/
import Derived.Test.YtbbkkoeipkigdaaDoorRows
import GoSem.ClaimSeven
namespace Go.Proofs.YtbbkkoeipkigdaaDoor
namespace Rows

/-- THE TIED CARD OF 'erratalaw08.MatchHits'. -/
def matchHitsCard : Claim7 := { stood := { row := matchHitsRow, standIns := [], harness := (true, "09d46b1520da6fd5d5eb77d7383599afa9ae388133f618902693732b24fda455"), looks := false }, kinds := [], alts := [], laidByText := true, laidKinds := [.data, .pinned], laidTests := true, laidLooks := .later }
def MatchHitsCardSaid : Prop := Claim7.holds Tryd.pinned (.plain (OpenSpec.ofChange matchHitsSpec)) matchHitsCard

/-- THE TIED CARD OF 'erratalaw08.MatchStands'. -/
def matchStandsCard : Claim7 := { stood := { row := matchStandsRow, standIns := [], harness := (true, "09d46b1520da6fd5d5eb77d7383599afa9ae388133f618902693732b24fda455"), looks := false }, kinds := [], alts := [], laidByText := true, laidKinds := [.data, .pinned], laidTests := true, laidLooks := .later }
def MatchStandsCardSaid : Prop := Claim7.holds Tryd.pinned (.plain (OpenSpec.ofChange matchStandsSpec)) matchStandsCard

/-- THE TIED CARD OF 'erratalaw08.MatchMoves'. -/
def matchMovesCard : Claim7 := { stood := { row := matchMovesRow, standIns := [], harness := (true, "09d46b1520da6fd5d5eb77d7383599afa9ae388133f618902693732b24fda455"), looks := false }, kinds := [], alts := [], laidByText := true, laidKinds := [.data, .pinned], laidTests := true, laidLooks := .later }
def MatchMovesCardSaid : Prop := Claim7.holds Tryd.pinned (.plain (OpenSpec.ofChange matchMovesSpec)) matchMovesCard

/-- THE TIED CARD OF 'erratalaw08.MatchPlaces'. -/
def matchPlacesCard : Claim7 := { stood := { row := matchPlacesRow, standIns := [], harness := (true, "09d46b1520da6fd5d5eb77d7383599afa9ae388133f618902693732b24fda455"), looks := false }, kinds := [], alts := [], laidByText := true, laidKinds := [.data, .pinned], laidTests := true, laidLooks := .later }
def MatchPlacesCardSaid : Prop := Claim7.holds Tryd.pinned (.plain (OpenSpec.ofChange matchPlacesSpec)) matchPlacesCard

/-- THE TIED CARD OF 'erratalaw08.MatchStates'. -/
def matchStatesCard : Claim7 := { stood := { row := matchStatesRow, standIns := [], harness := (true, "09d46b1520da6fd5d5eb77d7383599afa9ae388133f618902693732b24fda455"), looks := false }, kinds := [], alts := [], laidByText := true, laidKinds := [.data, .pinned], laidTests := true, laidLooks := .later }
def MatchStatesCardSaid : Prop := Claim7.holds Tryd.pinned (.plain (OpenSpec.ofChange matchStatesSpec)) matchStatesCard

/-- THE TIED CARD OF 'erratalaw08.MatchAlone'. -/
def matchAloneCard : Claim7 := { stood := { row := matchAloneRow, standIns := [], harness := (true, "09d46b1520da6fd5d5eb77d7383599afa9ae388133f618902693732b24fda455"), looks := false }, kinds := [], alts := [], laidByText := true, laidKinds := [.data, .pinned], laidTests := true, laidLooks := .later }
def MatchAloneCardSaid : Prop := Claim7.holds Tryd.pinned (.plain (OpenSpec.ofChange matchAloneSpec)) matchAloneCard

/-- THE SECOND FORM's CARD OF 'erratalaw08.MatchHits'. -/
def matchHitsUptoCard : Claim7 := { stood := { row := matchHitsUptoRow, standIns := [], harness := (true, "09d46b1520da6fd5d5eb77d7383599afa9ae388133f618902693732b24fda455"), looks := false }, kinds := [], alts := [], laidByText := true, laidKinds := [.data, .pinned], laidTests := true, laidLooks := .later }
def MatchHitsUptoCardSaid : Prop := Claim7.holds Tryd.pinned (.plain (OpenSpec.upto matchHitsSpec)) matchHitsUptoCard

/-- THE SECOND FORM's CARD OF 'erratalaw08.MatchStands'. -/
def matchStandsUptoCard : Claim7 := { stood := { row := matchStandsUptoRow, standIns := [], harness := (true, "09d46b1520da6fd5d5eb77d7383599afa9ae388133f618902693732b24fda455"), looks := false }, kinds := [], alts := [], laidByText := true, laidKinds := [.data, .pinned], laidTests := true, laidLooks := .later }
def MatchStandsUptoCardSaid : Prop := Claim7.holds Tryd.pinned (.plain (OpenSpec.upto matchStandsSpec)) matchStandsUptoCard

/-- THE SECOND FORM's CARD OF 'erratalaw08.MatchMoves'. -/
def matchMovesUptoCard : Claim7 := { stood := { row := matchMovesUptoRow, standIns := [], harness := (true, "09d46b1520da6fd5d5eb77d7383599afa9ae388133f618902693732b24fda455"), looks := false }, kinds := [], alts := [], laidByText := true, laidKinds := [.data, .pinned], laidTests := true, laidLooks := .later }
def MatchMovesUptoCardSaid : Prop := Claim7.holds Tryd.pinned (.plain (OpenSpec.upto matchMovesSpec)) matchMovesUptoCard

/-- THE SECOND FORM's CARD OF 'erratalaw08.MatchPlaces'. -/
def matchPlacesUptoCard : Claim7 := { stood := { row := matchPlacesUptoRow, standIns := [], harness := (true, "09d46b1520da6fd5d5eb77d7383599afa9ae388133f618902693732b24fda455"), looks := false }, kinds := [], alts := [], laidByText := true, laidKinds := [.data, .pinned], laidTests := true, laidLooks := .later }
def MatchPlacesUptoCardSaid : Prop := Claim7.holds Tryd.pinned (.plain (OpenSpec.upto matchPlacesSpec)) matchPlacesUptoCard

/-- THE SECOND FORM's CARD OF 'erratalaw08.MatchStates'. -/
def matchStatesUptoCard : Claim7 := { stood := { row := matchStatesUptoRow, standIns := [], harness := (true, "09d46b1520da6fd5d5eb77d7383599afa9ae388133f618902693732b24fda455"), looks := false }, kinds := [], alts := [], laidByText := true, laidKinds := [.data, .pinned], laidTests := true, laidLooks := .later }
def MatchStatesUptoCardSaid : Prop := Claim7.holds Tryd.pinned (.plain (OpenSpec.upto matchStatesSpec)) matchStatesUptoCard

/-- THE SECOND FORM's CARD OF 'erratalaw08.MatchAlone'. -/
def matchAloneUptoCard : Claim7 := { stood := { row := matchAloneUptoRow, standIns := [], harness := (true, "09d46b1520da6fd5d5eb77d7383599afa9ae388133f618902693732b24fda455"), looks := false }, kinds := [], alts := [], laidByText := true, laidKinds := [.data, .pinned], laidTests := true, laidLooks := .later }
def MatchAloneUptoCardSaid : Prop := Claim7.holds Tryd.pinned (.plain (OpenSpec.upto matchAloneSpec)) matchAloneUptoCard
end Rows
end Go.Proofs.YtbbkkoeipkigdaaDoor
