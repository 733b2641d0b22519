/- A slice of steps as an argument, with the form's own bound on its bytes. -/
import Derived.Test.YtlicchblafodaaaDoorAArg
namespace Go.Proofs.YtlicchblafodaaaDoor
open Go.RowKit Go.Shelf Go.WideShapes Go.Deep

set_option maxRecDepth 100000 in
theorem steps_of_arg_len {H : Type} {enc : TypeId × Value → H} {W : World} {base : Nat} {v : Value} {d : DataW H} {p : List MemPlace} (hv : Value.okWide Tryd.prog W .any base 22 v) (h : DataW.Trod enc Tryd.prog W 0 (fun _ => true) true 22 v d p)
    (hw : (DataW.weights Tryd.prog 22 d).all (· ≤ reachBytes) = true) : ∃ l : List St, StRuns W v l ∧ stFit l ∧ l.length ≤ 140737488351232 := by
  obtain ⟨l, hl, hf⟩ := steps_of_arg hv h
  refine ⟨l, hl, hf, ?_⟩
  obtain ⟨a0, len0, cap0, rfl⟩ := okWide_slice Tryd.underlying22 hv
  obtain ⟨fuel, hx⟩ := h
  obtain ⟨A, c, e, _⟩ := hl
  obtain ⟨_, e2, _⟩ := Value.slice.inj e
  have hb : Tryd.prog.bytesOf 45 = 16 := by kernel_rfl
  rcases open_slice Tryd.underlying22 hx with ⟨h0, _⟩ | ⟨a, len, cap, m, n, D, Pl, hcs, _, _, _, _, hxx, _⟩
  · have h1 := (List.cons.inj h0).1
    obtain ⟨_, e3, _⟩ := Value.slice.inj h1
    omega
  · have h1 := (List.cons.inj hcs).1
    obtain ⟨_, e3, _⟩ := Value.slice.inj h1
    have hd := congrArg Prod.fst hxx
    simp only at hd
    subst hd
    simp only [DataW.weights, Tryd.underlying22, List.all_cons, Bool.and_eq_true, decide_eq_true_eq, hb] at hw
    have h3 : reachBytes = 140737488351232 := by decide
    have h2 := hw.1
    rw [h3, List.length_map, List.length_range] at h2
    omega
end Go.Proofs.YtlicchblafodaaaDoor
