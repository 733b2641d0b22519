/- Texts that several proofs of this seat share, one behind the other: EArg. -/
import Derived.Test.YtnognphjndpgkaaGreatDoorPk18
import Derived.Lib.SmallJoins
import Derived.SliceStrings
import Derived.Deep.Slices
import Derived.ChangeArms
import Derived.OpenShut
/- Arguments of layer 6 opened: a slice of pairs; how long their texts may be. -/
namespace Go.Proofs.YtnognphjndpgkaaGreatDoor
open Go.ChangeShapes Go.WideShapes Go.ChangeAt Go.RowKit Go.Shelf Go.Deep Go.Joins
set_option linter.unusedSimpArgs false
set_option linter.unusedVariables false

theorem prFields : ∃ f0 f1 : Field, Tryz.prog.underlying 25 = some (.struct #[f0, f1]) ∧ f0.type = 9 ∧ f0.offset = 0 ∧ f1.type = 9 ∧ f1.offset = 1 :=
  ⟨_, _, Tryz.underlying25, rfl, rfl, rfl, rfl⟩
theorem cellsPr6 : Tryz.prog.cellsOf 25 = 2 := by kernel_rfl
def prD {H : Type} (p : Pr) : DataW H := .agg [.lit (.string p.1.data.toList), .lit (.string p.2.data.toList)]

set_option maxRecDepth 100000 in
theorem pr_of_cells {H : Type} {enc : TypeId × Value → H} {W : World} {fuel : Nat} {cs : List Value} {x : DataW H × List MemPlace} (h : DataW.trod enc Tryz.prog W 0 (fun _ => true) true fuel 25 cs = some x) : ∃ p : Pr, cs = prCell p ∧ x.1 = prD p := by
  obtain ⟨f0, f1, hu, t0, o0, t1, o1⟩ := prFields
  obtain ⟨xs, n, _, hx, hlen, hxl, hf⟩ := DataW.trod_struct hu h
  rw [cellsPr6] at hlen
  have h0 := hf 0 f0 rfl
  have h1 := hf 1 f1 rfl
  rw [t0, o0, cellsStr6] at h0
  rw [t1, o1, cellsStr6] at h1
  have hx3 : xs.length = 2 := hxl
  match cs, hlen, xs, hx3 with
  | [c0, c1], _, [x0, x1], _ =>
    obtain ⟨a0, e0, d0, _⟩ := DataW.trod_string Tryz.underlying9 h0
    obtain ⟨a1, e1, d1, _⟩ := DataW.trod_string Tryz.underlying9 h1
    simp at e0 e1 d0 d1
    refine ⟨(a0, a1), by rw [e0, e1]; rfl, ?_⟩
    rw [hx]
    simp [prD, d0, d1]

set_option maxRecDepth 100000 in
theorem prs_of_arg {H : Type} {enc : TypeId × Value → H} {W : World} {base : Nat} {v : Value} {d : DataW H} {p : List MemPlace} (hv : Value.okWide Tryz.prog W .any base 22 v) (h : DataW.Trod enc Tryz.prog W 0 (fun _ => true) true 22 v d p) :
    ∃ l : List Pr, PRuns W v l ∧ ((d = .nil ∧ l = []) ∨ ∃ sp, d = .slice (l.map prD) sp) := by
  obtain ⟨a0, len, cap, rfl⟩ := okWide_slice Tryz.underlying22 hv
  obtain ⟨fuel, hf⟩ := h
  exact gruns_of_trod (ByteArray.empty, ByteArray.empty) (by decide) Tryz.underlying22 cellsPr6 (fun _ => rfl) (fun h => pr_of_cells h) hf

/-- The form's own bound on each text. -/
theorem prs_weights {H : Type} {d : DataW H} {l : List Pr} (hd : (d = .nil ∧ l = []) ∨ ∃ sp, d = .slice (l.map prD) sp) (hw : (DataW.weights Tryz.prog 22 d).all (· ≤ reachBytes) = true) : szP l := by
  have h3 : reachBytes = 140737488351232 := by decide
  rcases hd with ⟨_, rfl⟩ | ⟨sp, rfl⟩
  · exact fun b hb => by simp at hb
  simp only [DataW.weights, Tryz.underlying22, List.all_cons, List.all_append, Bool.and_eq_true] at hw
  have hw2 := hw.2.1
  clear hw
  induction l with
  | nil => exact fun b hb => by simp at hb
  | cons a l ih =>
    simp only [List.map_cons, DataW.weightsAll, List.all_append, Bool.and_eq_true] at hw2
    have h1 := hw2.1
    simp only [prD, DataW.weights, Tryz.underlying25, List.map_cons, List.map_nil, DataW.weightsEach, List.all_append, List.all_cons, List.all_nil, Bool.and_true, Bool.and_eq_true, decide_eq_true_eq, h3] at h1
    intro b hb
    rcases List.mem_cons.1 hb with rfl | hb
    · rw [Lib.size_eq, Lib.size_eq]; omega
    · exact ih hw2.2 b hb
end Go.Proofs.YtnognphjndpgkaaGreatDoor

