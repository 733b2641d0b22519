/- LogcostOften answers true for every four numbers of thirty-two bits: what is seen more often costs no more; a cost is from one to the most; of more kinds, or a greater total, it is no less. Conditions: none. -/
import Derived.Test.YtcffaemclmcknaaLOften
import Derived.Test.YtcffaemclmcknaaLFrame
import Derived.Lib.SmallJoins
namespace Go.Proofs.Ytcffaemclmcknaa.logcostOften
open Go.ChangeShapes Go.WideShapes Go.ChangeAt Go.RowKit Go.Joins

theorem u32_of_trod {H : Type} {enc : TypeId × Value → H} {W : World} {base n : Nat} {spare : Nat → Bool} {held : Bool} {v : Value} {y : DataW H × List MemPlace} (h : DataW.trod enc Try.prog W base spare held n 32 [v] = some y) :
    ∃ a : Nat, v = .int .u32 a ∧ (a : Int) ≤ 4294967295 := by
  obtain ⟨z, hz, _, hw⟩ := DataW.trod_int Try.underlying32 h
  obtain rfl : v = .int .u32 z := by simpa using hz
  obtain ⟨a, rfl, hb⟩ := nat_of_bounds (bounds_u32 hw)
  exact ⟨a, rfl, hb⟩

set_option maxRecDepth 100000 in
theorem lifted (os : Os) (started : os.Started) (H : Type) (enc : TypeId × Value → H) :
    ReturnsInHanded {} Try.checked os 7 .any (Rows.logcostOftenSpec.pre6 enc Try.prog Try.f7 Rows.logcostOftenRow.domain false) (Rows.logcostOftenSpec.post enc Try.prog Try.f7 false true false false) := by
  refine returnsInHanded_of_change (C := Try.checked) own started (by kernel_rfl) Try.func7
    (ChangeSpec.witness6 (enc := enc) (C := Try.checked) false ⟨#[], #[.agg #[.int .u32 0, .int .u32 0, .int .u32 0, .int .u32 0]], []⟩ 8 (by kernel_rfl) (by kernel_rfl) (by kernel_rfl) (by kernel_rfl)) ?_
  intro W base args ds gs before hval0 hW hcnd _
  have hval : ∀ (j : Nat) t v, Try.f7.params[j]? = some t → args[j]? = some v → Value.okWide Try.prog W .any base t v := hval0
  have hW' := hW
  obtain ⟨p, q, hA0, hV, rfl, hfz, hnd⟩ := hW
  have hA : DataW.TrodAll enc Try.prog W 0 (fun _ => true) true Try.f7.params.toList args.toList ds p := hA0
  rw [Try.params7] at hA hval
  obtain ⟨v0, vs0, d0, ds0, p0, q0, hargs, rfl, rfl, h0, r0⟩ := trodAll_cons hA
  obtain ⟨rfl, rfl, rfl⟩ := trodAll_nil r0
  obtain rfl : args = #[v0] := by cases args; simp_all
  obtain ⟨rfl, rfl⟩ := trodVars_none hV
  obtain ⟨j0, j1, j2, j3, y0, y1, y2, y3, nn, rfl, rfl, _, g0, g1, g2, g3⟩ := open_agg4 Try.underlying36 (by kernel_rfl) (by kernel_rfl) (hval 0 36 v0 rfl rfl) h0
  obtain ⟨n0, rfl, b0⟩ := u32_of_trod g0
  obtain ⟨n1, rfl, b1⟩ := u32_of_trod g1
  obtain ⟨n2, rfl, b2⟩ := u32_of_trod g2
  obtain ⟨n3, rfl, b3⟩ := u32_of_trod g3
  refine (often_any n0 n1 n2 n3 (by omega) (by omega) (by omega) (by omega) W).mono ?_
  rintro e W' ⟨rfl, bel⟩
  exact ⟨_, rfl, law_post (tb := 4) laidOut (by decide +kernel) hW' bel Try.underlying4 rfl rfl rfl rfl rfl⟩

theorem over : Rows.LogcostOftenSaid :=
  OpenClaim.holds_of_wide 7 Try.f7 rfl rfl rfl rfl rfl rfl rfl ⟨rfl, rfl, rfl, rfl, rfl⟩ rfl rfl rfl rfl rfl (by kernel_rfl) Try.func7 (by kernel_rfl)
    (of_decide_eq_true (by kernel_rfl)) (by unfold Func.isWrapper; first | (rw [if_pos (by decide +kernel)]; kernel_rfl) | (rw [if_neg (by decide +kernel)]; exact ⟨rfl, rfl⟩))
    (fun os started H enc _ => lifted os started H enc)
end Go.Proofs.Ytcffaemclmcknaa.logcostOften
namespace Go.Proofs.Ytcffaemclmcknaa
theorem logcostOften_holds : Rows.LogcostOftenSaid := logcostOften.over
end Go.Proofs.Ytcffaemclmcknaa
