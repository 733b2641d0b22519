/- Arguments of layer 4 opened: a slice of steps. -/
import Derived.Test.YtlicchblafodaaaDoorPk7
import Derived.Test.YtlicchblafodaaaDoorPk11
import Derived.Lib.SmallJoins
import Derived.SliceStrings
import Derived.Deep.Slices
import Derived.ChangeArms
import Derived.OpenShut
namespace Go.Proofs.YtlicchblafodaaaDoor
open Go.ChangeShapes Go.WideShapes Go.ChangeAt Go.RowKit Go.Shelf Go.Deep Go.Joins

theorem stepFields : ∃ f0 f1 f2 : Field, Tryd.prog.underlying 45 = some (.struct #[f0, f1, f2]) ∧ f0.type = 3 ∧ f0.offset = 0 ∧ f1.type = 21 ∧ f1.offset = 1 ∧ f2.type = 21 ∧ f2.offset = 2 :=
  ⟨_, _, _, Tryd.underlying45, rfl, rfl, rfl, rfl, rfl, rfl⟩
theorem cellsStep : Tryd.prog.cellsOf 45 = 3 := by kernel_rfl
theorem cellsInt : Tryd.prog.cellsOf 3 = 1 := by kernel_rfl

set_option maxRecDepth 100000 in
/-- One step, read. -/
theorem step_of_cells {H : Type} {enc : TypeId × Value → H} {W : World} {fuel : Nat} {cs : List Value} {x : DataW H × List MemPlace} (h : DataW.trod enc Tryd.prog W 0 (fun _ => true) true fuel 45 cs = some x) : ∃ p : St, cs = stCell p ∧ (-2147483648 ≤ p.2.1 ∧ p.2.1 ≤ 2147483647) ∧ (-2147483648 ≤ p.2.2 ∧ p.2.2 ≤ 2147483647) := by
  obtain ⟨f0, f1, f2, hu, t0, o0, t1, o1, t2, o2⟩ := stepFields
  obtain ⟨xs, n, _, _, hlen, hxl, hf⟩ := DataW.trod_struct hu h
  rw [cellsStep] at hlen
  have h0 := hf 0 f0 rfl
  have h1 := hf 1 f1 rfl
  have h2 := hf 2 f2 rfl
  rw [t0, o0, cellsInt] at h0
  rw [t1, o1, cells32] at h1
  rw [t2, o2, cells32] at h2
  have hx3 : xs.length = 3 := hxl
  match cs, hlen with
  | [c0, c1, c2], _ =>
    rw [List.getElem?_eq_getElem (by omega)] at h0 h1 h2
    obtain ⟨a0, e0, _, _⟩ := DataW.trod_int Tryd.underlying3 h0
    obtain ⟨a1, e1, _, w1⟩ := DataW.trod_int Tryd.underlying21 h1
    obtain ⟨a2, e2, _, w2⟩ := DataW.trod_int Tryd.underlying21 h2
    simp at e0 e1 e2
    exact ⟨(a0, a1, a2), by rw [e0, e1, e2]; rfl, bounds_i32 w1, bounds_i32 w2⟩
/-- A slice of steps, read. -/
theorem steps_of_trod {H : Type} {enc : TypeId × Value → H} {W : World} {fuel : Nat} {v : Value} {x : DataW H × List MemPlace} (h : DataW.trod enc Tryd.prog W 0 (fun _ => true) true fuel 22 [v] = some x) : ∃ l : List St, StRuns W v l ∧ stFit l := by
  rcases open_slice Tryd.underlying22 h with ⟨h0, _⟩ | ⟨a, len, cap, m, n, D, Pl, hcs, _, hl, hm, hmm, _, hi⟩
  · obtain rfl : v = .slice none 0 0 := by simpa using h0
    exact ⟨[], StRuns.nil_ _, fun s hs => by simp at hs⟩
  · obtain rfl : v = .slice (some a) len cap := by simpa using hcs
    simp only [if_true] at hmm
    subst hmm
    have hex : ∀ i, i < len → ∃ p : St, (∀ j, j < 3 → W.cell? (a.add (i * 3 + j)) = (stCell p)[j]?) ∧ (-2147483648 ≤ p.2.1 ∧ p.2.1 ≤ 2147483647) ∧ (-2147483648 ≤ p.2.2 ∧ p.2.2 ≤ 2147483647) := by
      intro i hil
      obtain ⟨cs', hc, ht⟩ := hi i (by omega)
      rw [cellsStep] at hc
      obtain ⟨p, rfl, hp⟩ := step_of_cells ht
      obtain ⟨_, _, hat⟩ := World.cells?_some hc
      exact ⟨p, fun j hj => by rw [← Go.Deep.add_add]; exact hat j hj, hp⟩
    obtain ⟨f, hf⟩ : ∃ f : Nat → St, ∀ i, i < len → (∀ j, j < 3 → W.cell? (a.add (i * 3 + j)) = (stCell (f i))[j]?) ∧ (-2147483648 ≤ (f i).2.1 ∧ (f i).2.1 ≤ 2147483647) ∧ (-2147483648 ≤ (f i).2.2 ∧ (f i).2.2 ≤ 2147483647) := by
      refine ⟨fun i => if hi : i < len then Classical.choose (hex i hi) else (0, 0, 0), fun i hi => ?_⟩
      simp only [hi, dif_pos]
      exact Classical.choose_spec (hex i hi)
    have hll : ((List.range len).map f).length = len := by simp
    refine ⟨(List.range len).map f, ⟨some a, _, by rw [hll], by rw [hll]; exact hl, ⟨hm, fun h => by cases h⟩, fun hp => ?_⟩, fun s hs => ?_⟩
    · rw [hll] at hp ⊢
      obtain ⟨b, off, spot⟩ := a
      have h00 := (hf 0 hp).1 0 (by decide)
      have hspot : spot = none := by simpa [Addr.add] using World.cell?_spot (h00.trans (by rfl : (stCell (f 0))[0]? = some (.int .i64 (f 0).1)))
      subst hspot
      have hblt : b < W.heap.size := by
        rcases Nat.lt_or_ge b W.heap.size with h' | h'
        · exact h'
        · rw [addr_add] at h00
          simp [World.cell?, Array.getElem?_eq_none h', stCell] at h00
      refine ⟨b, off, rfl, hblt, fun j hj => ?_⟩
      have hg : ((List.range len).map f).getD j (0, 0, 0) = f j := by simp [List.getD_eq_getElem?_getD, hj]
      rw [hg]
      refine ⟨?_, ?_, ?_⟩
      · have := (hf j hj).1 0 (by decide); rw [addr_add] at this; exact this
      · have := (hf j hj).1 1 (by decide); rw [addr_add] at this; exact this
      · have := (hf j hj).1 2 (by decide); rw [addr_add] at this; exact this
    · obtain ⟨i, hi, rfl⟩ := List.mem_map.1 hs
      exact (hf i (by simpa using hi)).2
theorem steps_of_arg {H : Type} {enc : TypeId × Value → H} {W : World} {base : Nat} {v : Value} {d : DataW H} {p : List MemPlace} (hv : Value.okWide Tryd.prog W .any base 22 v) (h : DataW.Trod enc Tryd.prog W 0 (fun _ => true) true 22 v d p) :
    ∃ l : List St, StRuns W v l ∧ stFit l := by
  obtain ⟨a0, len, cap, rfl⟩ := okWide_slice Tryd.underlying22 hv
  obtain ⟨fuel, hf⟩ := h
  exact steps_of_trod hf
end Go.Proofs.YtlicchblafodaaaDoor
