/- LogcostNext answers true for every two numbers of thirty-two bits: from a number to its double all sixteenths come, each not falling. Conditions: none. -/
import Derived.Test.YtcffaemclmcknaaLNext
import Derived.Test.YtcffaemclmcknaaLFrame
namespace Go.Proofs.Ytcffaemclmcknaa.logcostNext
open Go.ChangeShapes Go.WideShapes Go.ChangeAt Go.RowKit

set_option maxRecDepth 100000 in
theorem lifted (os : Os) (started : os.Started) (H : Type) (enc : TypeId × Value → H) :
    ReturnsInHanded {} Try.checked os 9 .any (Rows.logcostNextSpec.pre6 enc Try.prog Try.f9 Rows.logcostNextRow.domain false) (Rows.logcostNextSpec.post enc Try.prog Try.f9 false true false false) := by
  refine returnsInHanded_of_change (C := Try.checked) own started (by kernel_rfl) Try.func9
    (ChangeSpec.witness6 (enc := enc) (C := Try.checked) false ⟨#[], #[.int .u32 0, .int .u32 0], []⟩ 8 (by kernel_rfl) (by kernel_rfl) (by kernel_rfl) (by kernel_rfl)) ?_
  intro W base args ds gs before hval0 hW hcnd _
  have hval : ∀ (j : Nat) t v, Try.f9.params[j]? = some t → args[j]? = some v → Value.okWide Try.prog W .any base t v := hval0
  have hW' := hW
  obtain ⟨p, q, hA0, hV, rfl, hfz, hnd⟩ := hW
  have hA : DataW.TrodAll enc Try.prog W 0 (fun _ => true) true Try.f9.params.toList args.toList ds p := hA0
  rw [Try.params9] at hA hval
  obtain ⟨v0, vs0, d0, ds0, p0, q0, hargs, rfl, rfl, h0, r0⟩ := trodAll_cons hA
  obtain ⟨v1, vs1, d1, ds1, p1, q1, rfl, rfl, rfl, h1, r1⟩ := trodAll_cons r0
  obtain ⟨rfl, rfl, rfl⟩ := trodAll_nil r1
  obtain rfl : args = #[v0, v1] := by cases args; simp_all
  obtain ⟨rfl, rfl⟩ := trodVars_none hV
  obtain ⟨a0, rfl, rfl, rfl, w0⟩ := open_int Try.underlying32 (hval 0 32 v0 rfl rfl) h0
  obtain ⟨a1, rfl, rfl, rfl, w1⟩ := open_int Try.underlying32 (hval 1 32 v1 rfl rfl) h1
  obtain ⟨n0, rfl, b0⟩ := nat_of_bounds (bounds_u32 w0)
  obtain ⟨n1, rfl, b1⟩ := nat_of_bounds (bounds_u32 w1)
  refine (next_any n0 n1 (by omega) (by omega) W).mono ?_
  rintro e W' ⟨rfl, bel⟩
  exact ⟨_, rfl, law_post (tb := 4) laidOut (by decide +kernel) hW' bel Try.underlying4 rfl rfl rfl rfl rfl⟩

theorem over : Rows.LogcostNextSaid :=
  OpenClaim.holds_of_wide 9 Try.f9 rfl rfl rfl rfl rfl rfl rfl ⟨rfl, rfl, rfl, rfl, rfl⟩ rfl rfl rfl rfl rfl (by kernel_rfl) Try.func9 (by kernel_rfl)
    (of_decide_eq_true (by kernel_rfl)) (by unfold Func.isWrapper; first | (rw [if_pos (by decide +kernel)]; kernel_rfl) | (rw [if_neg (by decide +kernel)]; exact ⟨rfl, rfl⟩))
    (fun os started H enc _ => lifted os started H enc)
end Go.Proofs.Ytcffaemclmcknaa.logcostNext
namespace Go.Proofs.Ytcffaemclmcknaa
theorem logcostNext_holds : Rows.LogcostNextSaid := logcostNext.over
end Go.Proofs.Ytcffaemclmcknaa
