/- AlignSteps and AlignReads, walked: nothing is left open. -/
import Derived.Test.YthigbnklekdemaaDoorGAlive
namespace Go.Proofs.YthigbnklekdemaaDoor
open Go.RowKit Go.Shelf
theorem alignSteps_all (s t : ByteArray) (w : World) (h : Okw w) (hs : s.size ≤ maxLen) (ht : t.size ≤ maxLen) : Calls Tryd.prog 3 #[.string s, .string t] w (RetTrue w) :=
  alignSteps_walk s t w h alive4_any (fun h1 h2 => steps_any s t (by omega) (by omega)) (fun h1 h2 => distance_any s t (by omega) (by omega)) hs ht
theorem alignReads_all (u : Value) (l : List St) (w : World) (h : Okw w) (hu : StRuns w u l) (hf : stFit l) : Calls Tryd.prog 4 #[u] w (RetTrue w) :=
  alignReads_walk u l w h alive4_any hu (fun h1 => read_any l (by omega) hf) (fun h1 => check_any l (by omega) hf) (fun _ w u _ hu => cost_any u l w hu)
end Go.Proofs.YthigbnklekdemaaDoor
