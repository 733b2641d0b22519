/- LogcostCosts answers true for every five numbers: the cost of any counts, or the error, and any two costs together, are the document's. Conditions: none. -/
import Derived.Test.YtcffaemclmcknaaLCosts
import Derived.Test.YtcffaemclmcknaaLFrame
namespace Go.Proofs.Ytcffaemclmcknaa.logcostCosts
open Go.ChangeShapes Go.WideShapes Go.ChangeAt Go.RowKit

theorem int_of_trod {H : Type} {enc : TypeId × Value → H} {W : World} {base n : Nat} {spare : Nat → Bool} {held : Bool} {v : Value} {y : DataW H × List MemPlace} (h : DataW.trod enc Try.prog W base spare held n 3 [v] = some y) :
    ∃ a : Int, v = .int .i64 a ∧ -9223372036854775808 ≤ a ∧ a ≤ 9223372036854775807 := by
  obtain ⟨z, hz, _, hw⟩ := DataW.trod_int Try.underlying3 h
  obtain rfl : v = .int .i64 z := by simpa using hz
  exact ⟨z, rfl, bounds_i64 hw⟩

/-- The one argument: five numbers. -/
theorem five_of_arg {H : Type} {enc : TypeId × Value → H} {W : World} {base b0 : Nat} {spare : Nat → Bool} {held : Bool} {v : Value} {d : DataW H} {p : List MemPlace} (hv : Value.okWide Try.prog W .any base 28 v) (h : DataW.Trod enc Try.prog W b0 spare held 28 v d p) :
    ∃ a0 a1 a2 a3 a4 : Int, v = .agg #[.int .i64 a0, .int .i64 a1, .int .i64 a2, .int .i64 a3, .int .i64 a4] ∧ (-9223372036854775808 ≤ a3 ∧ a3 ≤ 9223372036854775807) ∧ -9223372036854775808 ≤ a4 ∧ a4 ≤ 9223372036854775807 := by
  obtain ⟨⟨l⟩, rfl, hsz⟩ := okWide_struct Try.underlying28 hv
  have h5 : l.length = 5 := hsz.trans (by kernel_rfl)
  obtain ⟨fuel, hf⟩ := h
  obtain ⟨xs, n, _, _, _, hlen, hall⟩ := DataW.trod_struct Try.underlying28 hf
  have one : Try.prog.cellsOf 3 = 1 := by kernel_rfl
  match l, h5, xs, hlen with
  | [c0, c1, c2, c3, c4], _, [y0, y1, y2, y3, y4], _ =>
    have g0 := hall 0 _ rfl
    have g1 := hall 1 _ rfl
    have g2 := hall 2 _ rfl
    have g3 := hall 3 _ rfl
    have g4 := hall 4 _ rfl
    simp [one, Value.cells] at g0 g1 g2 g3 g4
    obtain ⟨a0, rfl, _⟩ := int_of_trod g0
    obtain ⟨a1, rfl, _⟩ := int_of_trod g1
    obtain ⟨a2, rfl, _⟩ := int_of_trod g2
    obtain ⟨a3, rfl, b3⟩ := int_of_trod g3
    obtain ⟨a4, rfl, b4⟩ := int_of_trod g4
    exact ⟨a0, a1, a2, a3, a4, rfl, b3, b4⟩

set_option maxRecDepth 100000 in
theorem lifted (os : Os) (started : os.Started) (H : Type) (enc : TypeId × Value → H) :
    ReturnsInHanded {} Try.checked os 4 .any (Rows.logcostCostsSpec.pre6 enc Try.prog Try.f4 Rows.logcostCostsRow.domain false) (Rows.logcostCostsSpec.post enc Try.prog Try.f4 false true false false) := by
  refine returnsInHanded_of_change (C := Try.checked) own started (by kernel_rfl) Try.func4
    (ChangeSpec.witness6 (enc := enc) (C := Try.checked) false ⟨#[], #[.agg #[.int .i64 0, .int .i64 0, .int .i64 0, .int .i64 0, .int .i64 0]], []⟩ 8 (by kernel_rfl) (by kernel_rfl) (by kernel_rfl) (by kernel_rfl)) ?_
  intro W base args ds gs before hval0 hW hcnd _
  have hval : ∀ (j : Nat) t v, Try.f4.params[j]? = some t → args[j]? = some v → Value.okWide Try.prog W .any base t v := hval0
  have hW' := hW
  obtain ⟨p, q, hA0, hV, rfl, hfz, hnd⟩ := hW
  have hA : DataW.TrodAll enc Try.prog W 0 (fun _ => true) true Try.f4.params.toList args.toList ds p := hA0
  rw [Try.params4] at hA hval
  obtain ⟨v0, vs0, d0, ds0, p0, q0, hargs, rfl, rfl, h0, r0⟩ := trodAll_cons hA
  obtain ⟨rfl, rfl, rfl⟩ := trodAll_nil r0
  obtain rfl : args = #[v0] := by cases args; simp_all
  obtain ⟨rfl, rfl⟩ := trodVars_none hV
  obtain ⟨a0, a1, a2, a3, a4, rfl, b3, b4⟩ := five_of_arg (hval 0 28 v0 rfl rfl) h0
  refine (costs_any a0 a1 a2 a3 a4 b3.2 b4.2 W).mono ?_
  rintro e W' ⟨rfl, bel⟩
  exact ⟨_, rfl, law_post (tb := 4) laidOut (by decide +kernel) hW' bel Try.underlying4 rfl rfl rfl rfl rfl⟩

theorem over : Rows.LogcostCostsSaid :=
  OpenClaim.holds_of_wide 4 Try.f4 rfl rfl rfl rfl rfl rfl rfl ⟨rfl, rfl, rfl, rfl, rfl⟩ rfl rfl rfl rfl rfl (by kernel_rfl) Try.func4 (by kernel_rfl)
    (of_decide_eq_true (by kernel_rfl)) (by unfold Func.isWrapper; first | (rw [if_pos (by decide +kernel)]; kernel_rfl) | (rw [if_neg (by decide +kernel)]; exact ⟨rfl, rfl⟩))
    (fun os started H enc _ => lifted os started H enc)
end Go.Proofs.Ytcffaemclmcknaa.logcostCosts
namespace Go.Proofs.Ytcffaemclmcknaa
theorem logcostCosts_holds : Rows.LogcostCostsSaid := logcostCosts.over
end Go.Proofs.Ytcffaemclmcknaa
