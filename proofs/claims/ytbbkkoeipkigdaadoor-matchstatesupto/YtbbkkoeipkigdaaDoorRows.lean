/-
  NARROWER THAN 'FOR EVERY INPUT', by the rows' own cells (each row's printed sentence says how): MatchHits: laid · MatchStands: laid · MatchMoves: laid · MatchPlaces: laid · MatchStates: laid · MatchAlone: laid.
  DERIVED. THE GIVEN ROWS OF THIS SEAT. 6 by the template 'for every input the law returns true; each argument reads behind the call as it read before'; 0 by the template 'total and deterministic' (their statements: YtbbkkoeipkigdaaDoorTotals.lean).
  GIVEN WITH THE SEED: the statements are not yours to turn. If you find one false, say at which input.
  Laid BY PROGRAM, IN A SANDBOX (cutbox-rows.mjs): the forced cells as the released guide's own fill.sh prints them over the translation 3f848a7963a876a4… (all of the seat's roots in one cut). By AI agents, Wed Nov 11 2026. No macro, syntax, notation, axiom, sorry.
-/
import Derived.Test.YtbbkkoeipkigdaaDoorChecked
import GoSem.PinnedTables
import GoSem.Claim
import GoSem.ClaimJoined
import GoSem.ClaimMapViews
import Derived.JoinedTies
import Derived.KernelRfl
namespace Go.Proofs.YtbbkkoeipkigdaaDoor
/- THE CELL 'sum', in the pinned program and in every row, IS THE sha256 OF THE DUMP (.gsa) THAT YtbbkkoeipkigdaaDoorProg.lean LOADS. Nothing in Lean hashes anything: it is a label: what it is worth is what the hold of that sum in a sandbox is worth. -/
noncomputable def Tryd.pinned : Pinned := { name := "ytbbkkoeipkigdaadoor", sum := "3f848a7963a876a49e0bce1dd7676807036e07fcfdfd6a488c89f50904ba9c5e", checked := Tryd.checked }
namespace Rows
def none {H : Type} : Left H := { results := [], args := [] }

/- WHAT THE LISTED PACKAGE-LEVEL VARIABLES READ AS WHEN THE CALL BEGINS. Each datum BY PROGRAM (the guide's laid-datum.mjs) off the statement by which the dump's own 'gosem.cut.vars' lays the variable. In a bare row this is a premise. The card (YtbbkkoeipkigdaaDoorCards.lean) ties it to the program's text. -/
def laid_unicode_utf8_acceptRanges {H : Type} : DataW H := .agg [.agg [.lit (.int .u8 128), .lit (.int .u8 191)], .agg [.lit (.int .u8 160), .lit (.int .u8 191)], .agg [.lit (.int .u8 128), .lit (.int .u8 159)], .agg [.lit (.int .u8 144), .lit (.int .u8 191)], .agg [.lit (.int .u8 128), .lit (.int .u8 143)], .agg [.lit (.int .u8 0), .lit (.int .u8 0)], .agg [.lit (.int .u8 0), .lit (.int .u8 0)], .agg [.lit (.int .u8 0), .lit (.int .u8 0)], .agg [.lit (.int .u8 0), .lit (.int .u8 0)], .agg [.lit (.int .u8 0), .lit (.int .u8 0)], .agg [.lit (.int .u8 0), .lit (.int .u8 0)], .agg [.lit (.int .u8 0), .lit (.int .u8 0)], .agg [.lit (.int .u8 0), .lit (.int .u8 0)], .agg [.lit (.int .u8 0), .lit (.int .u8 0)], .agg [.lit (.int .u8 0), .lit (.int .u8 0)], .agg [.lit (.int .u8 0), .lit (.int .u8 0)]]
/-- One of Go's own tables, pinned by name: the form's constant. -/
def laid_unicode_utf8_first : DataW Unit := Go.Pinned.utf8First

/-- 'erratalaw08.MatchHits': WHATEVER THE INPUT: true; the input reads as it did. -/
def matchHitsSpec : ChangeSpec := { name := "matchHits", fn := fun _ => fun
  | [d1, d2, d3] => { results := [.lit (.bool true)], args := [d1, d2, d3] }
  | _ => none }
def matchHitsRow : OpenClaim := { program := "ytbbkkoeipkigdaadoor", sum := "3f848a7963a876a49e0bce1dd7676807036e07fcfdfd6a488c89f50904ba9c5e", func := "errata/erratalaw08.MatchHits", spec := "matchHits", unfollowed := true, recurses := true, named := ["unicode/utf8.first", "unicode/utf8.acceptRanges"], plainKeys := false, apart := false, laid := [("unicode/utf8.acceptRanges", laid_unicode_utf8_acceptRanges), ("unicode/utf8.first", laid_unicode_utf8_first)] }
def MatchHitsSaid : Prop := matchHitsRow.holds Tryd.pinned (OpenSpec.ofChange matchHitsSpec)

/-- ITS FALSE NEIGHBOUR: 'it returns false'. Refute it at one input. -/
def matchHitsWrong : ChangeSpec := { name := "matchHits", fn := fun _ => fun
  | [d1, d2, d3] => { results := [.lit (.bool false)], args := [d1, d2, d3] }
  | _ => none }
def MatchHitsWrongFalsely : Prop := matchHitsRow.holds Tryd.pinned (OpenSpec.ofChange matchHitsWrong)

/-- 'erratalaw08.MatchStands': WHATEVER THE INPUT: true; the input reads as it did. -/
def matchStandsSpec : ChangeSpec := { name := "matchStands", fn := fun _ => fun
  | [d1, d2] => { results := [.lit (.bool true)], args := [d1, d2] }
  | _ => none }
def matchStandsRow : OpenClaim := { program := "ytbbkkoeipkigdaadoor", sum := "3f848a7963a876a49e0bce1dd7676807036e07fcfdfd6a488c89f50904ba9c5e", func := "errata/erratalaw08.MatchStands", spec := "matchStands", inPlace := ["internal/abi.NoEscape"], unfollowed := true, recurses := true, named := ["unicode/utf8.first", "unicode/utf8.acceptRanges"], plainKeys := false, apart := false, laid := [("unicode/utf8.acceptRanges", laid_unicode_utf8_acceptRanges), ("unicode/utf8.first", laid_unicode_utf8_first)] }
def MatchStandsSaid : Prop := matchStandsRow.holds Tryd.pinned (OpenSpec.ofChange matchStandsSpec)

/-- ITS FALSE NEIGHBOUR: 'it returns false'. Refute it at one input. -/
def matchStandsWrong : ChangeSpec := { name := "matchStands", fn := fun _ => fun
  | [d1, d2] => { results := [.lit (.bool false)], args := [d1, d2] }
  | _ => none }
def MatchStandsWrongFalsely : Prop := matchStandsRow.holds Tryd.pinned (OpenSpec.ofChange matchStandsWrong)

/-- 'erratalaw08.MatchMoves': WHATEVER THE INPUT: true; the input reads as it did. -/
def matchMovesSpec : ChangeSpec := { name := "matchMoves", fn := fun _ => fun
  | [d] => { results := [.lit (.bool true)], args := [d] }
  | _ => none }
def matchMovesRow : OpenClaim := { program := "ytbbkkoeipkigdaadoor", sum := "3f848a7963a876a49e0bce1dd7676807036e07fcfdfd6a488c89f50904ba9c5e", func := "errata/erratalaw08.MatchMoves", spec := "matchMoves", unfollowed := true, recurses := true, named := ["unicode/utf8.first", "unicode/utf8.acceptRanges"], plainKeys := false, apart := false, laid := [("unicode/utf8.acceptRanges", laid_unicode_utf8_acceptRanges), ("unicode/utf8.first", laid_unicode_utf8_first)] }
def MatchMovesSaid : Prop := matchMovesRow.holds Tryd.pinned (OpenSpec.ofChange matchMovesSpec)

/-- ITS FALSE NEIGHBOUR: 'it returns false'. Refute it at one input. -/
def matchMovesWrong : ChangeSpec := { name := "matchMoves", fn := fun _ => fun
  | [d] => { results := [.lit (.bool false)], args := [d] }
  | _ => none }
def MatchMovesWrongFalsely : Prop := matchMovesRow.holds Tryd.pinned (OpenSpec.ofChange matchMovesWrong)

/-- 'erratalaw08.MatchPlaces': WHATEVER THE INPUT: true; the input reads as it did. -/
def matchPlacesSpec : ChangeSpec := { name := "matchPlaces", fn := fun _ => fun
  | [d1, d2] => { results := [.lit (.bool true)], args := [d1, d2] }
  | _ => none }
def matchPlacesRow : OpenClaim := { program := "ytbbkkoeipkigdaadoor", sum := "3f848a7963a876a49e0bce1dd7676807036e07fcfdfd6a488c89f50904ba9c5e", func := "errata/erratalaw08.MatchPlaces", spec := "matchPlaces", unfollowed := true, recurses := true, named := ["unicode/utf8.first", "unicode/utf8.acceptRanges"], plainKeys := false, apart := false, laid := [("unicode/utf8.acceptRanges", laid_unicode_utf8_acceptRanges), ("unicode/utf8.first", laid_unicode_utf8_first)] }
def MatchPlacesSaid : Prop := matchPlacesRow.holds Tryd.pinned (OpenSpec.ofChange matchPlacesSpec)

/-- ITS FALSE NEIGHBOUR: 'it returns false'. Refute it at one input. -/
def matchPlacesWrong : ChangeSpec := { name := "matchPlaces", fn := fun _ => fun
  | [d1, d2] => { results := [.lit (.bool false)], args := [d1, d2] }
  | _ => none }
def MatchPlacesWrongFalsely : Prop := matchPlacesRow.holds Tryd.pinned (OpenSpec.ofChange matchPlacesWrong)

/-- 'erratalaw08.MatchStates': WHATEVER THE INPUT: true; the input reads as it did. -/
def matchStatesSpec : ChangeSpec := { name := "matchStates", fn := fun _ => fun
  | [d1, d2] => { results := [.lit (.bool true)], args := [d1, d2] }
  | _ => none }
def matchStatesRow : OpenClaim := { program := "ytbbkkoeipkigdaadoor", sum := "3f848a7963a876a49e0bce1dd7676807036e07fcfdfd6a488c89f50904ba9c5e", func := "errata/erratalaw08.MatchStates", spec := "matchStates", unfollowed := true, recurses := true, named := ["unicode/utf8.first", "unicode/utf8.acceptRanges"], plainKeys := false, apart := false, laid := [("unicode/utf8.acceptRanges", laid_unicode_utf8_acceptRanges), ("unicode/utf8.first", laid_unicode_utf8_first)] }
def MatchStatesSaid : Prop := matchStatesRow.holds Tryd.pinned (OpenSpec.ofChange matchStatesSpec)

/-- ITS FALSE NEIGHBOUR: 'it returns false'. Refute it at one input. -/
def matchStatesWrong : ChangeSpec := { name := "matchStates", fn := fun _ => fun
  | [d1, d2] => { results := [.lit (.bool false)], args := [d1, d2] }
  | _ => none }
def MatchStatesWrongFalsely : Prop := matchStatesRow.holds Tryd.pinned (OpenSpec.ofChange matchStatesWrong)

/-- 'erratalaw08.MatchAlone': WHATEVER THE INPUT: true; the input reads as it did. -/
def matchAloneSpec : ChangeSpec := { name := "matchAlone", fn := fun _ => fun
  | [d1, d2] => { results := [.lit (.bool true)], args := [d1, d2] }
  | _ => none }
def matchAloneRow : OpenClaim := { program := "ytbbkkoeipkigdaadoor", sum := "3f848a7963a876a49e0bce1dd7676807036e07fcfdfd6a488c89f50904ba9c5e", func := "errata/erratalaw08.MatchAlone", spec := "matchAlone", unfollowed := true, recurses := true, named := ["unicode/utf8.first", "unicode/utf8.acceptRanges"], plainKeys := false, apart := false, laid := [("unicode/utf8.acceptRanges", laid_unicode_utf8_acceptRanges), ("unicode/utf8.first", laid_unicode_utf8_first)] }
def MatchAloneSaid : Prop := matchAloneRow.holds Tryd.pinned (OpenSpec.ofChange matchAloneSpec)

/-- ITS FALSE NEIGHBOUR: 'it returns false'. Refute it at one input. -/
def matchAloneWrong : ChangeSpec := { name := "matchAlone", fn := fun _ => fun
  | [d1, d2] => { results := [.lit (.bool false)], args := [d1, d2] }
  | _ => none }
def MatchAloneWrongFalsely : Prop := matchAloneRow.holds Tryd.pinned (OpenSpec.ofChange matchAloneWrong)

/- THE SECOND FORM. 'bulk': how many values and letters a reading holds, each counted each time it is reached (what is shared counts as often as it is met; a slice's spare places count too). A statement '..UptoSaid' is the law's where the arguments, and the package variables that the reading takes, are together of bulk at most 1048576: NARROWER than '..Said'. Prove '..Said' where nothing that the law and all that it calls make is longer than what came in: it says more and counts as full. Else prove '..UptoSaid'. A law counts once. -/
mutual
def uptoBulk {H : Type} : DataW H → Nat
  | .lit (.string bytes) => bytes.length + 1
  | .lit _ => 1
  | .nil => 1
  | .ptr d => uptoBulk d + 1
  | .slice elems spare => uptoBulkAll elems + uptoBulkAll spare + 1
  | .agg parts => uptoBulkAll parts + 1
  | .iface _ d => uptoBulk d + 1
  | .map entries => uptoBulkEntries entries + 1
  | .held _ => 1
def uptoBulkAll {H : Type} : List (DataW H) → Nat
  | [] => 0
  | d :: r => uptoBulk d + uptoBulkAll r
def uptoBulkEntries {H : Type} : List (Lit × DataW H) → Nat
  | [] => 0
  | x :: r => uptoBulkEntry x + uptoBulkEntries r
def uptoBulkEntry {H : Type} : Lit × DataW H → Nat
  | (.string bytes, d) => bytes.length + uptoBulk d + 1
  | (_, d) => uptoBulk d + 1
 end
def uptoSmall : (H : Type) → List (DataW H) → Bool := fun _ ds => decide (uptoBulkAll ds ≤ 1048576)
def OpenSpec.upto (s : _root_.Go.ChangeSpec) : _root_.Go.OpenSpec := { _root_.Go.OpenSpec.ofChange s with cond := some uptoSmall }

/-- 'erratalaw08.MatchHits', WHERE WHAT IT READS IS OF BULK AT MOST 1048576: true; the input reads as it did. -/
def matchHitsUptoRow : OpenClaim := { program := "ytbbkkoeipkigdaadoor", sum := "3f848a7963a876a49e0bce1dd7676807036e07fcfdfd6a488c89f50904ba9c5e", func := "errata/erratalaw08.MatchHits", spec := "matchHits", unfollowed := true, recurses := true, named := ["unicode/utf8.first", "unicode/utf8.acceptRanges"], plainKeys := false, apart := false, laid := [("unicode/utf8.acceptRanges", laid_unicode_utf8_acceptRanges), ("unicode/utf8.first", laid_unicode_utf8_first)], narrowed := true }
def MatchHitsUptoSaid : Prop := matchHitsUptoRow.holds Tryd.pinned (OpenSpec.upto matchHitsSpec)

/-- 'erratalaw08.MatchStands', WHERE WHAT IT READS IS OF BULK AT MOST 1048576: true; the input reads as it did. -/
def matchStandsUptoRow : OpenClaim := { program := "ytbbkkoeipkigdaadoor", sum := "3f848a7963a876a49e0bce1dd7676807036e07fcfdfd6a488c89f50904ba9c5e", func := "errata/erratalaw08.MatchStands", spec := "matchStands", inPlace := ["internal/abi.NoEscape"], unfollowed := true, recurses := true, named := ["unicode/utf8.first", "unicode/utf8.acceptRanges"], plainKeys := false, apart := false, laid := [("unicode/utf8.acceptRanges", laid_unicode_utf8_acceptRanges), ("unicode/utf8.first", laid_unicode_utf8_first)], narrowed := true }
def MatchStandsUptoSaid : Prop := matchStandsUptoRow.holds Tryd.pinned (OpenSpec.upto matchStandsSpec)

/-- 'erratalaw08.MatchMoves', WHERE WHAT IT READS IS OF BULK AT MOST 1048576: true; the input reads as it did. -/
def matchMovesUptoRow : OpenClaim := { program := "ytbbkkoeipkigdaadoor", sum := "3f848a7963a876a49e0bce1dd7676807036e07fcfdfd6a488c89f50904ba9c5e", func := "errata/erratalaw08.MatchMoves", spec := "matchMoves", unfollowed := true, recurses := true, named := ["unicode/utf8.first", "unicode/utf8.acceptRanges"], plainKeys := false, apart := false, laid := [("unicode/utf8.acceptRanges", laid_unicode_utf8_acceptRanges), ("unicode/utf8.first", laid_unicode_utf8_first)], narrowed := true }
def MatchMovesUptoSaid : Prop := matchMovesUptoRow.holds Tryd.pinned (OpenSpec.upto matchMovesSpec)

/-- 'erratalaw08.MatchPlaces', WHERE WHAT IT READS IS OF BULK AT MOST 1048576: true; the input reads as it did. -/
def matchPlacesUptoRow : OpenClaim := { program := "ytbbkkoeipkigdaadoor", sum := "3f848a7963a876a49e0bce1dd7676807036e07fcfdfd6a488c89f50904ba9c5e", func := "errata/erratalaw08.MatchPlaces", spec := "matchPlaces", unfollowed := true, recurses := true, named := ["unicode/utf8.first", "unicode/utf8.acceptRanges"], plainKeys := false, apart := false, laid := [("unicode/utf8.acceptRanges", laid_unicode_utf8_acceptRanges), ("unicode/utf8.first", laid_unicode_utf8_first)], narrowed := true }
def MatchPlacesUptoSaid : Prop := matchPlacesUptoRow.holds Tryd.pinned (OpenSpec.upto matchPlacesSpec)

/-- 'erratalaw08.MatchStates', WHERE WHAT IT READS IS OF BULK AT MOST 1048576: true; the input reads as it did. -/
def matchStatesUptoRow : OpenClaim := { program := "ytbbkkoeipkigdaadoor", sum := "3f848a7963a876a49e0bce1dd7676807036e07fcfdfd6a488c89f50904ba9c5e", func := "errata/erratalaw08.MatchStates", spec := "matchStates", unfollowed := true, recurses := true, named := ["unicode/utf8.first", "unicode/utf8.acceptRanges"], plainKeys := false, apart := false, laid := [("unicode/utf8.acceptRanges", laid_unicode_utf8_acceptRanges), ("unicode/utf8.first", laid_unicode_utf8_first)], narrowed := true }
def MatchStatesUptoSaid : Prop := matchStatesUptoRow.holds Tryd.pinned (OpenSpec.upto matchStatesSpec)

/-- 'erratalaw08.MatchAlone', WHERE WHAT IT READS IS OF BULK AT MOST 1048576: true; the input reads as it did. -/
def matchAloneUptoRow : OpenClaim := { program := "ytbbkkoeipkigdaadoor", sum := "3f848a7963a876a49e0bce1dd7676807036e07fcfdfd6a488c89f50904ba9c5e", func := "errata/erratalaw08.MatchAlone", spec := "matchAlone", unfollowed := true, recurses := true, named := ["unicode/utf8.first", "unicode/utf8.acceptRanges"], plainKeys := false, apart := false, laid := [("unicode/utf8.acceptRanges", laid_unicode_utf8_acceptRanges), ("unicode/utf8.first", laid_unicode_utf8_first)], narrowed := true }
def MatchAloneUptoSaid : Prop := matchAloneUptoRow.holds Tryd.pinned (OpenSpec.upto matchAloneSpec)

end Rows
end Go.Proofs.YtbbkkoeipkigdaaDoor
