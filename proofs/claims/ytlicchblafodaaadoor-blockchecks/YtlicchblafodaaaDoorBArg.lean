/- A block as an argument, by value. -/
import Derived.Lib.SmallJoins
import Derived.Test.YtlicchblafodaaaDoorPk8
import Derived.Test.YtlicchblafodaaaDoorPk11
namespace Go.Proofs.YtlicchblafodaaaDoor
open Go.RowKit Go.Shelf Go.Joins Go.WideShapes

set_option maxRecDepth 100000 in
theorem blk_of_arg {H : Type} {enc : TypeId × Value → H} {W : World} {base : Nat} {v : Value} {d : DataW H} {p : List MemPlace} (hv : Value.okWide Tryd.prog W .any base 35 v) (h : DataW.Trod enc Tryd.prog W 0 (fun _ => true) true 35 v d p) :
    ∃ b : Blk, v = .agg #[.string b.1, .string b.2.1, .int .i64 b.2.2] ∧ d = .agg [.lit (.string b.1.data.toList), .lit (.string b.2.1.data.toList), .lit (.int .i64 b.2.2)] := by
  obtain ⟨j0, j1, j2, y0, y1, y2, nn, rfl, rfl, _, g0, g1, g2⟩ := open_agg3 Tryd.underlying35 (by kernel_rfl) (by kernel_rfl) hv h
  obtain ⟨a0, e0, e0', _⟩ := DataW.trod_string Tryd.underlying9 g0
  obtain ⟨a1, e1, e1', _⟩ := DataW.trod_string Tryd.underlying9 g1
  obtain ⟨a2, e2, e2', _⟩ := DataW.trod_int Tryd.underlying3 g2
  obtain rfl : j0 = .string a0 := by simpa using e0
  obtain rfl : j1 = .string a1 := by simpa using e1
  obtain rfl : j2 = .int .i64 a2 := by simpa using e2
  exact ⟨(a0, a1, a2), rfl, by rw [e0', e1', e2']⟩
end Go.Proofs.YtlicchblafodaaaDoor
