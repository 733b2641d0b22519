/- The law BlockOrders, walked whole. -/
import Derived.Test.YtlicchblafodaaaDoorBOrd
import Derived.Test.YtlicchblafodaaaDoorPk11
namespace Go.Proofs.YtlicchblafodaaaDoor
open Go.RowKit Go.Shelf
theorem blockOrders_all (a b c : Blk) (w : World) (h : Okw w) :
    Calls Tryd.prog 8 #[.agg #[.string a.1, .string a.2.1, .int .i64 a.2.2], .agg #[.string b.1, .string b.2.1, .int .i64 b.2.2], .agg #[.string c.1, .string c.2.1, .int .i64 c.2.2]] w (RetTrue w) :=
  blockOrders_walk a b c w h alive5_any less_at
end Go.Proofs.YtlicchblafodaaaDoor
