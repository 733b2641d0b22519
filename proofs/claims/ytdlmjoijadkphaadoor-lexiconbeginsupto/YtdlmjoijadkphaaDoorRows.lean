/-
  NARROWER THAN 'FOR EVERY INPUT', by the rows' own cells (each row's printed sentence says how): LexiconIs: laid · LexiconFinds: laid · LexiconOnce: laid · LexiconAll: laid · LexiconBegins: laid · LexiconBest: laid.
  DERIVED. THE GIVEN ROWS OF THIS SEAT. 6 by the template 'for every input the law returns true; each argument reads behind the call as it read before'; 0 by the template 'total and deterministic' (their statements: YtdlmjoijadkphaaDoorTotals.lean).
  GIVEN WITH THE SEED: the statements are not yours to turn. If you find one false, say at which input.
  Laid BY PROGRAM, IN A SANDBOX (cutbox-rows.mjs): the forced cells as the released guide's own fill.sh prints them over the translation 3556eccae2bc7d93… (all of the seat's roots in one cut). By AI agents, Wed Nov 11 2026. No macro, syntax, notation, axiom, sorry.
-/
import Derived.Test.YtdlmjoijadkphaaDoorChecked
import GoSem.PinnedTables
import GoSem.Claim
import GoSem.ClaimJoined
import GoSem.ClaimMapViews
import Derived.JoinedTies
import Derived.KernelRfl
namespace Go.Proofs.YtdlmjoijadkphaaDoor
/- THE CELL 'sum', in the pinned program and in every row, IS THE sha256 OF THE DUMP (.gsa) THAT YtdlmjoijadkphaaDoorProg.lean LOADS. Nothing in Lean hashes anything: it is a label: what it is worth is what the hold of that sum in a sandbox is worth. -/
noncomputable def Tryd.pinned : Pinned := { name := "ytdlmjoijadkphaadoor", sum := "3556eccae2bc7d93a09ef0414b166332543f8f086cada62742a37df390189d63", checked := Tryd.checked }
namespace Rows
def none {H : Type} : Left H := { results := [], args := [] }

/- WHAT THE LISTED PACKAGE-LEVEL VARIABLES READ AS WHEN THE CALL BEGINS. Each datum BY PROGRAM (the guide's laid-datum.mjs) off the statement by which the dump's own 'gosem.cut.vars' lays the variable. In a bare row this is a premise. The card (YtdlmjoijadkphaaDoorCards.lean) ties it to the program's text. -/
def laid_unicode_utf8_acceptRanges {H : Type} : DataW H := .agg [.agg [.lit (.int .u8 128), .lit (.int .u8 191)], .agg [.lit (.int .u8 160), .lit (.int .u8 191)], .agg [.lit (.int .u8 128), .lit (.int .u8 159)], .agg [.lit (.int .u8 144), .lit (.int .u8 191)], .agg [.lit (.int .u8 128), .lit (.int .u8 143)], .agg [.lit (.int .u8 0), .lit (.int .u8 0)], .agg [.lit (.int .u8 0), .lit (.int .u8 0)], .agg [.lit (.int .u8 0), .lit (.int .u8 0)], .agg [.lit (.int .u8 0), .lit (.int .u8 0)], .agg [.lit (.int .u8 0), .lit (.int .u8 0)], .agg [.lit (.int .u8 0), .lit (.int .u8 0)], .agg [.lit (.int .u8 0), .lit (.int .u8 0)], .agg [.lit (.int .u8 0), .lit (.int .u8 0)], .agg [.lit (.int .u8 0), .lit (.int .u8 0)], .agg [.lit (.int .u8 0), .lit (.int .u8 0)], .agg [.lit (.int .u8 0), .lit (.int .u8 0)]]
/-- One of Go's own tables, pinned by name: the form's constant. -/
def laid_unicode_utf8_first : DataW Unit := Go.Pinned.utf8First

/-- 'erratalaw09.LexiconIs': WHATEVER THE INPUT: true; the input reads as it did. -/
def lexiconIsSpec : ChangeSpec := { name := "lexiconIs", fn := fun _ => fun
  | [d1, d2] => { results := [.lit (.bool true)], args := [d1, d2] }
  | _ => none }
def lexiconIsRow : OpenClaim := { program := "ytdlmjoijadkphaadoor", sum := "3556eccae2bc7d93a09ef0414b166332543f8f086cada62742a37df390189d63", func := "errata/erratalaw09.LexiconIs", spec := "lexiconIs", inPlace := ["internal/bytealg.abigen_runtime_cmpstring"], unfollowed := true, recurses := true, named := ["unicode/utf8.first", "unicode/utf8.acceptRanges"], apart := false, laid := [("unicode/utf8.acceptRanges", laid_unicode_utf8_acceptRanges), ("unicode/utf8.first", laid_unicode_utf8_first)] }
def LexiconIsSaid : Prop := lexiconIsRow.holds Tryd.pinned (OpenSpec.ofChange lexiconIsSpec)

/-- ITS FALSE NEIGHBOUR: 'it returns false'. Refute it at one input. -/
def lexiconIsWrong : ChangeSpec := { name := "lexiconIs", fn := fun _ => fun
  | [d1, d2] => { results := [.lit (.bool false)], args := [d1, d2] }
  | _ => none }
def LexiconIsWrongFalsely : Prop := lexiconIsRow.holds Tryd.pinned (OpenSpec.ofChange lexiconIsWrong)

/-- 'erratalaw09.LexiconFinds': WHATEVER THE INPUT: true; the input reads as it did. -/
def lexiconFindsSpec : ChangeSpec := { name := "lexiconFinds", fn := fun _ => fun
  | [d] => { results := [.lit (.bool true)], args := [d] }
  | _ => none }
def lexiconFindsRow : OpenClaim := { program := "ytdlmjoijadkphaadoor", sum := "3556eccae2bc7d93a09ef0414b166332543f8f086cada62742a37df390189d63", func := "errata/erratalaw09.LexiconFinds", spec := "lexiconFinds", inPlace := ["internal/bytealg.abigen_runtime_cmpstring"], unfollowed := true, recurses := true, named := ["unicode/utf8.first", "unicode/utf8.acceptRanges"], apart := false, laid := [("unicode/utf8.acceptRanges", laid_unicode_utf8_acceptRanges), ("unicode/utf8.first", laid_unicode_utf8_first)] }
def LexiconFindsSaid : Prop := lexiconFindsRow.holds Tryd.pinned (OpenSpec.ofChange lexiconFindsSpec)

/-- ITS FALSE NEIGHBOUR: 'it returns false'. Refute it at one input. -/
def lexiconFindsWrong : ChangeSpec := { name := "lexiconFinds", fn := fun _ => fun
  | [d] => { results := [.lit (.bool false)], args := [d] }
  | _ => none }
def LexiconFindsWrongFalsely : Prop := lexiconFindsRow.holds Tryd.pinned (OpenSpec.ofChange lexiconFindsWrong)

/-- 'erratalaw09.LexiconOnce': WHATEVER THE INPUT: true; the input reads as it did. -/
def lexiconOnceSpec : ChangeSpec := { name := "lexiconOnce", fn := fun _ => fun
  | [d1, d2] => { results := [.lit (.bool true)], args := [d1, d2] }
  | _ => none }
def lexiconOnceRow : OpenClaim := { program := "ytdlmjoijadkphaadoor", sum := "3556eccae2bc7d93a09ef0414b166332543f8f086cada62742a37df390189d63", func := "errata/erratalaw09.LexiconOnce", spec := "lexiconOnce", inPlace := ["internal/bytealg.abigen_runtime_cmpstring"], unfollowed := true, recurses := true, named := ["unicode/utf8.first", "unicode/utf8.acceptRanges"], apart := false, laid := [("unicode/utf8.acceptRanges", laid_unicode_utf8_acceptRanges), ("unicode/utf8.first", laid_unicode_utf8_first)] }
def LexiconOnceSaid : Prop := lexiconOnceRow.holds Tryd.pinned (OpenSpec.ofChange lexiconOnceSpec)

/-- ITS FALSE NEIGHBOUR: 'it returns false'. Refute it at one input. -/
def lexiconOnceWrong : ChangeSpec := { name := "lexiconOnce", fn := fun _ => fun
  | [d1, d2] => { results := [.lit (.bool false)], args := [d1, d2] }
  | _ => none }
def LexiconOnceWrongFalsely : Prop := lexiconOnceRow.holds Tryd.pinned (OpenSpec.ofChange lexiconOnceWrong)

/-- 'erratalaw09.LexiconAll': WHATEVER THE INPUT: true; the input reads as it did. -/
def lexiconAllSpec : ChangeSpec := { name := "lexiconAll", fn := fun _ => fun
  | [d1, d2] => { results := [.lit (.bool true)], args := [d1, d2] }
  | _ => none }
def lexiconAllRow : OpenClaim := { program := "ytdlmjoijadkphaadoor", sum := "3556eccae2bc7d93a09ef0414b166332543f8f086cada62742a37df390189d63", func := "errata/erratalaw09.LexiconAll", spec := "lexiconAll", inPlace := ["internal/bytealg.abigen_runtime_cmpstring"], unfollowed := true, recurses := true, named := ["unicode/utf8.first", "unicode/utf8.acceptRanges"], apart := false, laid := [("unicode/utf8.acceptRanges", laid_unicode_utf8_acceptRanges), ("unicode/utf8.first", laid_unicode_utf8_first)] }
def LexiconAllSaid : Prop := lexiconAllRow.holds Tryd.pinned (OpenSpec.ofChange lexiconAllSpec)

/-- ITS FALSE NEIGHBOUR: 'it returns false'. Refute it at one input. -/
def lexiconAllWrong : ChangeSpec := { name := "lexiconAll", fn := fun _ => fun
  | [d1, d2] => { results := [.lit (.bool false)], args := [d1, d2] }
  | _ => none }
def LexiconAllWrongFalsely : Prop := lexiconAllRow.holds Tryd.pinned (OpenSpec.ofChange lexiconAllWrong)

/-- 'erratalaw09.LexiconBegins': WHATEVER THE INPUT: true; the input reads as it did. -/
def lexiconBeginsSpec : ChangeSpec := { name := "lexiconBegins", fn := fun _ => fun
  | [d1, d2, d3] => { results := [.lit (.bool true)], args := [d1, d2, d3] }
  | _ => none }
def lexiconBeginsRow : OpenClaim := { program := "ytdlmjoijadkphaadoor", sum := "3556eccae2bc7d93a09ef0414b166332543f8f086cada62742a37df390189d63", func := "errata/erratalaw09.LexiconBegins", spec := "lexiconBegins", inPlace := ["internal/bytealg.abigen_runtime_cmpstring"], unfollowed := true, recurses := true, named := ["unicode/utf8.first", "unicode/utf8.acceptRanges"], apart := false, laid := [("unicode/utf8.acceptRanges", laid_unicode_utf8_acceptRanges), ("unicode/utf8.first", laid_unicode_utf8_first)] }
def LexiconBeginsSaid : Prop := lexiconBeginsRow.holds Tryd.pinned (OpenSpec.ofChange lexiconBeginsSpec)

/-- ITS FALSE NEIGHBOUR: 'it returns false'. Refute it at one input. -/
def lexiconBeginsWrong : ChangeSpec := { name := "lexiconBegins", fn := fun _ => fun
  | [d1, d2, d3] => { results := [.lit (.bool false)], args := [d1, d2, d3] }
  | _ => none }
def LexiconBeginsWrongFalsely : Prop := lexiconBeginsRow.holds Tryd.pinned (OpenSpec.ofChange lexiconBeginsWrong)

/-- 'erratalaw09.LexiconBest': WHATEVER THE INPUT: true; the input reads as it did. -/
def lexiconBestSpec : ChangeSpec := { name := "lexiconBest", fn := fun _ => fun
  | [d1, d2] => { results := [.lit (.bool true)], args := [d1, d2] }
  | _ => none }
def lexiconBestRow : OpenClaim := { program := "ytdlmjoijadkphaadoor", sum := "3556eccae2bc7d93a09ef0414b166332543f8f086cada62742a37df390189d63", func := "errata/erratalaw09.LexiconBest", spec := "lexiconBest", inPlace := ["internal/bytealg.abigen_runtime_cmpstring"], unfollowed := true, recurses := true, named := ["unicode/utf8.first", "unicode/utf8.acceptRanges"], apart := false, laid := [("unicode/utf8.acceptRanges", laid_unicode_utf8_acceptRanges), ("unicode/utf8.first", laid_unicode_utf8_first)] }
def LexiconBestSaid : Prop := lexiconBestRow.holds Tryd.pinned (OpenSpec.ofChange lexiconBestSpec)

/-- ITS FALSE NEIGHBOUR: 'it returns false'. Refute it at one input. -/
def lexiconBestWrong : ChangeSpec := { name := "lexiconBest", fn := fun _ => fun
  | [d1, d2] => { results := [.lit (.bool false)], args := [d1, d2] }
  | _ => none }
def LexiconBestWrongFalsely : Prop := lexiconBestRow.holds Tryd.pinned (OpenSpec.ofChange lexiconBestWrong)

/- THE SECOND FORM. 'bulk': how many values and letters a reading holds, each counted each time it is reached (what is shared counts as often as it is met; a slice's spare places count too). A statement '..UptoSaid' is the law's where the arguments, and the package variables that the reading takes, are together of bulk at most 1048576: NARROWER than '..Said'. Prove '..Said' where nothing that the law and all that it calls make is longer than what came in: it says more and counts as full. Else prove '..UptoSaid'. A law counts once. -/
mutual
def uptoBulk {H : Type} : DataW H → Nat
  | .lit (.string bytes) => bytes.length + 1
  | .lit _ => 1
  | .nil => 1
  | .ptr d => uptoBulk d + 1
  | .slice elems spare => uptoBulkAll elems + uptoBulkAll spare + 1
  | .agg parts => uptoBulkAll parts + 1
  | .iface _ d => uptoBulk d + 1
  | .map entries => uptoBulkEntries entries + 1
  | .held _ => 1
def uptoBulkAll {H : Type} : List (DataW H) → Nat
  | [] => 0
  | d :: r => uptoBulk d + uptoBulkAll r
def uptoBulkEntries {H : Type} : List (Lit × DataW H) → Nat
  | [] => 0
  | x :: r => uptoBulkEntry x + uptoBulkEntries r
def uptoBulkEntry {H : Type} : Lit × DataW H → Nat
  | (.string bytes, d) => bytes.length + uptoBulk d + 1
  | (_, d) => uptoBulk d + 1
 end
def uptoSmall : (H : Type) → List (DataW H) → Bool := fun _ ds => decide (uptoBulkAll ds ≤ 1048576)
def OpenSpec.upto (s : _root_.Go.ChangeSpec) : _root_.Go.OpenSpec := { _root_.Go.OpenSpec.ofChange s with cond := some uptoSmall }

/-- 'erratalaw09.LexiconIs', WHERE WHAT IT READS IS OF BULK AT MOST 1048576: true; the input reads as it did. -/
def lexiconIsUptoRow : OpenClaim := { program := "ytdlmjoijadkphaadoor", sum := "3556eccae2bc7d93a09ef0414b166332543f8f086cada62742a37df390189d63", func := "errata/erratalaw09.LexiconIs", spec := "lexiconIs", inPlace := ["internal/bytealg.abigen_runtime_cmpstring"], unfollowed := true, recurses := true, named := ["unicode/utf8.first", "unicode/utf8.acceptRanges"], apart := false, laid := [("unicode/utf8.acceptRanges", laid_unicode_utf8_acceptRanges), ("unicode/utf8.first", laid_unicode_utf8_first)], narrowed := true }
def LexiconIsUptoSaid : Prop := lexiconIsUptoRow.holds Tryd.pinned (OpenSpec.upto lexiconIsSpec)

/-- 'erratalaw09.LexiconFinds', WHERE WHAT IT READS IS OF BULK AT MOST 1048576: true; the input reads as it did. -/
def lexiconFindsUptoRow : OpenClaim := { program := "ytdlmjoijadkphaadoor", sum := "3556eccae2bc7d93a09ef0414b166332543f8f086cada62742a37df390189d63", func := "errata/erratalaw09.LexiconFinds", spec := "lexiconFinds", inPlace := ["internal/bytealg.abigen_runtime_cmpstring"], unfollowed := true, recurses := true, named := ["unicode/utf8.first", "unicode/utf8.acceptRanges"], apart := false, laid := [("unicode/utf8.acceptRanges", laid_unicode_utf8_acceptRanges), ("unicode/utf8.first", laid_unicode_utf8_first)], narrowed := true }
def LexiconFindsUptoSaid : Prop := lexiconFindsUptoRow.holds Tryd.pinned (OpenSpec.upto lexiconFindsSpec)

/-- 'erratalaw09.LexiconOnce', WHERE WHAT IT READS IS OF BULK AT MOST 1048576: true; the input reads as it did. -/
def lexiconOnceUptoRow : OpenClaim := { program := "ytdlmjoijadkphaadoor", sum := "3556eccae2bc7d93a09ef0414b166332543f8f086cada62742a37df390189d63", func := "errata/erratalaw09.LexiconOnce", spec := "lexiconOnce", inPlace := ["internal/bytealg.abigen_runtime_cmpstring"], unfollowed := true, recurses := true, named := ["unicode/utf8.first", "unicode/utf8.acceptRanges"], apart := false, laid := [("unicode/utf8.acceptRanges", laid_unicode_utf8_acceptRanges), ("unicode/utf8.first", laid_unicode_utf8_first)], narrowed := true }
def LexiconOnceUptoSaid : Prop := lexiconOnceUptoRow.holds Tryd.pinned (OpenSpec.upto lexiconOnceSpec)

/-- 'erratalaw09.LexiconAll', WHERE WHAT IT READS IS OF BULK AT MOST 1048576: true; the input reads as it did. -/
def lexiconAllUptoRow : OpenClaim := { program := "ytdlmjoijadkphaadoor", sum := "3556eccae2bc7d93a09ef0414b166332543f8f086cada62742a37df390189d63", func := "errata/erratalaw09.LexiconAll", spec := "lexiconAll", inPlace := ["internal/bytealg.abigen_runtime_cmpstring"], unfollowed := true, recurses := true, named := ["unicode/utf8.first", "unicode/utf8.acceptRanges"], apart := false, laid := [("unicode/utf8.acceptRanges", laid_unicode_utf8_acceptRanges), ("unicode/utf8.first", laid_unicode_utf8_first)], narrowed := true }
def LexiconAllUptoSaid : Prop := lexiconAllUptoRow.holds Tryd.pinned (OpenSpec.upto lexiconAllSpec)

/-- 'erratalaw09.LexiconBegins', WHERE WHAT IT READS IS OF BULK AT MOST 1048576: true; the input reads as it did. -/
def lexiconBeginsUptoRow : OpenClaim := { program := "ytdlmjoijadkphaadoor", sum := "3556eccae2bc7d93a09ef0414b166332543f8f086cada62742a37df390189d63", func := "errata/erratalaw09.LexiconBegins", spec := "lexiconBegins", inPlace := ["internal/bytealg.abigen_runtime_cmpstring"], unfollowed := true, recurses := true, named := ["unicode/utf8.first", "unicode/utf8.acceptRanges"], apart := false, laid := [("unicode/utf8.acceptRanges", laid_unicode_utf8_acceptRanges), ("unicode/utf8.first", laid_unicode_utf8_first)], narrowed := true }
def LexiconBeginsUptoSaid : Prop := lexiconBeginsUptoRow.holds Tryd.pinned (OpenSpec.upto lexiconBeginsSpec)

/-- 'erratalaw09.LexiconBest', WHERE WHAT IT READS IS OF BULK AT MOST 1048576: true; the input reads as it did. -/
def lexiconBestUptoRow : OpenClaim := { program := "ytdlmjoijadkphaadoor", sum := "3556eccae2bc7d93a09ef0414b166332543f8f086cada62742a37df390189d63", func := "errata/erratalaw09.LexiconBest", spec := "lexiconBest", inPlace := ["internal/bytealg.abigen_runtime_cmpstring"], unfollowed := true, recurses := true, named := ["unicode/utf8.first", "unicode/utf8.acceptRanges"], apart := false, laid := [("unicode/utf8.acceptRanges", laid_unicode_utf8_acceptRanges), ("unicode/utf8.first", laid_unicode_utf8_first)], narrowed := true }
def LexiconBestUptoSaid : Prop := lexiconBestUptoRow.holds Tryd.pinned (OpenSpec.upto lexiconBestSpec)

end Rows
end Go.Proofs.YtdlmjoijadkphaaDoor
