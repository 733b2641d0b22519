/- Texts that several proofs of this seat share, one behind the other: VArg. -/
import Derived.Test.YtnognphjndpgkaaDoorPk10
import Derived.Test.YtnognphjndpgkaaDoorPk8
import Derived.Lib.SmallJoins
import Derived.SliceStrings
import Derived.Deep.Slices
import Derived.ChangeArms
import Derived.OpenShut
/- Arguments of layer 7 opened: a slice of rules, a rule by value. -/
namespace Go.Proofs.YtnognphjndpgkaaDoor
open Go.ChangeShapes Go.WideShapes Go.ChangeAt Go.RowKit Go.Shelf Go.Deep Go.Joins
set_option linter.unusedSimpArgs false
set_option linter.unusedVariables false

theorem rlFields : ∃ f0 f1 f2 : Field, Tryd.prog.underlying 24 = some (.struct #[f0, f1, f2]) ∧ f0.type = 9 ∧ f0.offset = 0 ∧ f1.type = 9 ∧ f1.offset = 1 ∧ f2.type = 3 ∧ f2.offset = 2 :=
  ⟨_, _, _, Tryd.underlying24, rfl, rfl, rfl, rfl, rfl, rfl⟩
theorem cellsRl7 : Tryd.prog.cellsOf 24 = 3 := by kernel_rfl
set_option maxRecDepth 100000 in
theorem rl_of_cells {H : Type} {enc : TypeId × Value → H} {W : World} {fuel : Nat} {cs : List Value} {x : DataW H × List MemPlace} (h : DataW.trod enc Tryd.prog W 0 (fun _ => true) true fuel 24 cs = some x) : ∃ p : Blk, cs = blkCell p ∧ x.1 = blkD p := by
  obtain ⟨f0, f1, f2, hu, t0, o0, t1, o1, t2, o2⟩ := rlFields
  obtain ⟨xs, n, _, hx, hlen, hxl, hf⟩ := DataW.trod_struct hu h
  rw [cellsRl7] at hlen
  have h0 := hf 0 f0 rfl
  have h1 := hf 1 f1 rfl
  have h2 := hf 2 f2 rfl
  rw [t0, o0, cellsStr6] at h0
  rw [t1, o1, cellsStr6] at h1
  rw [t2, o2, cellsInt6] at h2
  have hx3 : xs.length = 3 := hxl
  match cs, hlen, xs, hx3 with
  | [c0, c1, c2], _, [x0, x1, x2], _ =>
    obtain ⟨a0, e0, d0, _⟩ := DataW.trod_string Tryd.underlying9 h0
    obtain ⟨a1, e1, d1, _⟩ := DataW.trod_string Tryd.underlying9 h1
    obtain ⟨a2, e2, d2, _⟩ := DataW.trod_int Tryd.underlying3 h2
    simp at e0 e1 e2 d0 d1 d2
    refine ⟨(a0, a1, a2), by rw [e0, e1, e2]; rfl, ?_⟩
    rw [hx]
    simp [blkD, d0, d1, d2]
set_option maxRecDepth 100000 in
theorem rls_of_arg {H : Type} {enc : TypeId × Value → H} {W : World} {base : Nat} {v : Value} {d : DataW H} {p : List MemPlace} (hv : Value.okWide Tryd.prog W .any base 22 v) (h : DataW.Trod enc Tryd.prog W 0 (fun _ => true) true 22 v d p) :
    ∃ l : List Blk, BRuns W v l ∧ ((d = .nil ∧ l = []) ∨ ∃ sp, d = .slice (l.map blkD) sp) := by
  obtain ⟨a0, len, cap, rfl⟩ := okWide_slice Tryd.underlying22 hv
  obtain ⟨fuel, hf⟩ := h
  exact gruns_of_trod (ByteArray.empty, ByteArray.empty, 0) (by decide) Tryd.underlying22 cellsRl7 (fun _ => rfl) (fun h => rl_of_cells h) hf
/-- The form's own bound on each text. -/
theorem rls_weights {H : Type} {d : DataW H} {l : List Blk} (hd : (d = .nil ∧ l = []) ∨ ∃ sp, d = .slice (l.map blkD) sp) (hw : (DataW.weights Tryd.prog 22 d).all (· ≤ reachBytes) = true) : szM l := by
  have h3 : reachBytes = 140737488351232 := by decide
  rcases hd with ⟨_, rfl⟩ | ⟨sp, rfl⟩
  · exact fun b hb => by simp at hb
  simp only [DataW.weights, Tryd.underlying22, List.all_cons, List.all_append, Bool.and_eq_true] at hw
  have hw2 := hw.2.1
  clear hw
  induction l with
  | nil => exact fun b hb => by simp at hb
  | cons a l ih =>
    simp only [List.map_cons, DataW.weightsAll, List.all_append, Bool.and_eq_true] at hw2
    have h1 := hw2.1
    simp only [blkD, DataW.weights, Tryd.underlying24, List.map_cons, List.map_nil, DataW.weightsEach, List.all_append, List.all_cons, List.all_nil, Bool.and_true, Bool.and_eq_true, decide_eq_true_eq, h3] at h1
    intro b hb
    rcases List.mem_cons.1 hb with rfl | hb
    · rw [Lib.size_eq, Lib.size_eq]; omega
    · exact ih hw2.2 b hb
set_option maxRecDepth 100000 in
theorem rul_of_arg {H : Type} {enc : TypeId × Value → H} {W : World} {base : Nat} {v : Value} {d : DataW H} {p : List MemPlace} (hv : Value.okWide Tryd.prog W .any base 24 v) (h : DataW.Trod enc Tryd.prog W 0 (fun _ => true) true 24 v d p) :
    ∃ b : Blk, v = .agg #[.string b.1, .string b.2.1, .int .i64 b.2.2] ∧ d = .agg [.lit (.string b.1.data.toList), .lit (.string b.2.1.data.toList), .lit (.int .i64 b.2.2)] := by
  obtain ⟨j0, j1, j2, y0, y1, y2, nn, rfl, rfl, _, g0, g1, g2⟩ := open_agg3 Tryd.underlying24 (by kernel_rfl) (by kernel_rfl) hv h
  obtain ⟨a0, e0, e0', _⟩ := DataW.trod_string Tryd.underlying9 g0
  obtain ⟨a1, e1, e1', _⟩ := DataW.trod_string Tryd.underlying9 g1
  obtain ⟨a2, e2, e2', _⟩ := DataW.trod_int Tryd.underlying3 g2
  obtain rfl : j0 = .string a0 := by simpa using e0
  obtain rfl : j1 = .string a1 := by simpa using e1
  obtain rfl : j2 = .int .i64 a2 := by simpa using e2
  exact ⟨(a0, a1, a2), rfl, by rw [e0', e1', e2']⟩
theorem rul_weights {H : Type} {b : Blk} (hw : (DataW.weights (H := H) Tryd.prog 24 (.agg [.lit (.string b.1.data.toList), .lit (.string b.2.1.data.toList), .lit (.int .i64 b.2.2)])).all (· ≤ reachBytes) = true) : b.1.size ≤ 140737488355328 ∧ b.2.1.size ≤ 140737488355328 := by
  have h3 : reachBytes = 140737488351232 := by decide
  simp only [DataW.weights, Tryd.underlying24, List.map_cons, List.map_nil, DataW.weightsEach, List.all_append, List.all_cons, List.all_nil, Bool.and_true, Bool.and_eq_true, decide_eq_true_eq, h3] at hw
  rw [Lib.size_eq, Lib.size_eq]; omega
/-- The second form's bound: each block is four at least. -/
theorem blks_bulk4 {H : Type} {d : DataW H} {l : List Blk} (hd : (d = .nil ∧ l = []) ∨ ∃ sp, d = .slice (l.map blkD) sp) (hw : Rows.uptoBulk d ≤ 1048576) : l.length ≤ 1000000 ∧ szL l := by
  refine ⟨?_, (blks_bulk hd hw).2⟩
  rcases hd with ⟨_, rfl⟩ | ⟨sp, rfl⟩
  · simp
  simp only [Rows.uptoBulk] at hw
  have key : ∀ l : List Blk, l.length * 4 ≤ Rows.uptoBulkAll (l.map (blkD (H := H))) := by
    intro l
    induction l with
    | nil => simp
    | cons a l ih =>
      have e : Rows.uptoBulkAll ((a :: l).map (blkD (H := H))) = a.1.data.toList.length + 1 + (a.2.1.data.toList.length + 1 + (1 + 0)) + 1 + Rows.uptoBulkAll (l.map (blkD (H := H))) := rfl
      rw [e, List.length_cons]; omega
  have := key l
  omega
end Go.Proofs.YtnognphjndpgkaaDoor

