/- The laws of layer 5, walked whole: BlockSteps, BlockPairs, BlockChecks. -/
import Derived.Test.YtlicchblafodaaaDoorPk11
import Derived.Test.YtlicchblafodaaaDoorBLaw2
namespace Go.Proofs.YtlicchblafodaaaDoor
open Go.RowKit Go.Shelf

theorem blockSteps_all (u : Value) (l : List St) (w : World) (h : Okw w) (hu : StRuns w u l) (hf : stFit l) : Calls Tryd.prog 3 #[u] w (RetTrue w) :=
  blockSteps_walk u l w h alive5_any hu (fun hl => of_at l (by omega) hf) (fun hl => long_at l (by omega) hf)
theorem blockPairs_all (s t : ByteArray) (w : World) (h : Okw w) (hs : s.size ≤ maxLen) (ht : t.size ≤ maxLen) : Calls Tryd.prog 4 #[.string s, .string t] w (RetTrue w) :=
  blockPairs_walk s t w h alive5_any (fun h1 h2 => pair_at s t (by omega) (by omega)) hs ht
theorem blockChecks_all (a b : Blk) (w : World) (h : Okw w) (h1 : a.1.size ≤ 140737488351232) (h2 : a.2.1.size ≤ 140737488351232) (h3 : b.1.size ≤ 140737488351232) (h4 : b.2.1.size ≤ 140737488351232) :
    Calls Tryd.prog 5 #[.agg #[.string a.1, .string a.2.1, .int .i64 a.2.2], .agg #[.string b.1, .string b.2.1, .int .i64 b.2.2]] w (RetTrue w) :=
  blockChecks_walk a b w h alive5_any (fun hs => chk_at a (by omega) (by omega)) (fun _ => less_at a b) h1 h2 h3 h4
end Go.Proofs.YtlicchblafodaaaDoor
