/- slices.CompactFunc over rules: each side kept once. -/
import Derived.Test.YtbbkkoeipkigdaaDoorPk8
import Derived.Laws.IdiomCopy
import Derived.Lib.SliceRun
import Derived.Deep.RegionHeld3
import Derived.Deep.RegionLaw
import Derived.BigRegion
namespace Go.Proofs.YtbbkkoeipkigdaaDoor
open Go.RowKit Go.Shelf Go.Lib
open Go.Sort (grow)
set_option linter.unusedSimpArgs false
set_option linter.unusedVariables false

/-- The row at block g reads as L, and may be turned. -/
structure RowAt (w : World) (g : Nat) (L : List Blk) : Prop where
  lt : g < w.heap.size
  cell : ∀ j x, L[j]? = some x → ∀ i u, (blkCell x)[i]? = some u → w.cell? ⟨g, j * 3 + i, none⟩ = some u
  thaw : ∀ j, j < L.length * 3 → w.frozen? ⟨g, j, none⟩ = false
theorem RowAt.step {w w' : World} {g : Nat} {L : List Blk} (h : RowAt w g L) (hb : Below w.heap.size w w') : RowAt w' g L :=
  ⟨Nat.lt_of_lt_of_le h.lt hb.size, fun j x hj i u hu => (hb.cell (p := ⟨g, _, none⟩) h.lt).trans (h.cell j x hj i u hu), fun j hj => (hb.frozen (p := ⟨g, _, none⟩) h.lt).trans (h.thaw j hj)⟩
theorem RowAt.at3 {w : World} {g : Nat} {L : List Blk} (h : RowAt w g L) {j : Nat} {x : Blk} (hj : L[j]? = some x) : w.cell? ⟨g, j * 3, none⟩ = some (.string x.1) ∧ w.cell? ⟨g, j * 3 + 1, none⟩ = some (.string x.2.1) ∧ w.cell? ⟨g, j * 3 + 2, none⟩ = some (.int .i64 x.2.2) :=
  ⟨h.cell j x hj 0 _ rfl, h.cell j x hj 1 _ rfl, h.cell j x hj 2 _ rfl⟩
theorem RowAt.there {w : World} {g : Nat} {L : List Blk} (h : RowAt w g L) (j : Nat) (hj : j < L.length * 3) : (w.cell? ⟨g, j, none⟩).isSome = true := by
  have hq : j / 3 < L.length := (Nat.div_lt_iff_lt_mul (by decide)).2 hj
  have hm : j % 3 < 3 := Nat.mod_lt _ (by decide)
  have hu : (blkCell L[j / 3])[j % 3]? = some (blkCell L[j / 3])[j % 3] := List.getElem?_eq_getElem (show j % 3 < (blkCell L[j / 3]).length from hm)
  have := h.cell (j / 3) _ (List.getElem?_eq_getElem hq) (j % 3) _ hu
  rw [show j / 3 * 3 + j % 3 = j by omega] at this
  rw [this]; rfl
theorem RowAt.store {w : World} {g : Nat} {L : List Blk} (h : RowAt w g L) (i : Nat) (hi : i < L.length) (y : Blk) : RowAt (w.setCells g (i * 3) (blkCell y)) g (L.set i y) := by
  have hln : (blkCell y).length = 3 := rfl
  refine ⟨by have := h.lt; rwa [Go.Sort.size_setCells], fun j x hj k u hu => ?_, fun j hj => by rw [World.frozen?_setCells]; exact h.thaw j (by simpa using hj)⟩
  have hk : k < 3 := (List.getElem?_eq_some_iff.1 hu).1
  by_cases e : j = i
  · subst e
    rw [List.getElem?_set_self hi] at hj
    obtain rfl := Option.some.inj hj
    have h1 := World.cell?_setCells_in g (blkCell y) (j * 3) w (fun t ht => h.there (j * 3 + t) (by rw [hln] at ht; omega)) k (by rw [hln]; exact hk)
    rw [h1, ← hu]
    exact (List.getElem?_eq_getElem _).symm
  · rw [List.getElem?_set_ne (by omega)] at hj
    rw [World.cell?_setCells_out g _ _ _ _ (fun _ _ => by rw [hln]; show j * 3 + k < i * 3 ∨ i * 3 + 3 ≤ j * 3 + k; omega)]
    exact h.cell j x hj k u hu
theorem RowAt.runs {w : World} {g : Nat} {L : List Blk} (h : RowAt w g L) {k cap : Nat} (hk : k ≤ L.length) (hc : k ≤ cap) (hm : cap ≤ maxLen) {X : List Blk} (hX : L.take k = X) : BRuns w (.slice (some ⟨g, 0, none⟩) X.length cap) X := by
  subst hX
  have hl : (L.take k).length = k := by rw [List.length_take]; omega
  refine ⟨_, cap, rfl, by rw [hl]; exact hc, ⟨hm, fun h => by cases h⟩, fun _ => ⟨g, 0, rfl, h.lt, fun j x hj i u hu => ?_⟩⟩
  have hjk : j < k := by have := (List.getElem?_eq_some_iff.1 hj).1; omega
  rw [List.getElem?_take, if_pos hjk] at hj
  have := h.cell j x hj i u hu
  rwa [Nat.zero_add]
/-- clear of the end of a row of structs: some cells, one a place. -/
theorem clear_many {P : Program} (w : World) (t e ty : TypeId) (z : Value) (k : Nat) (ht : P.underlying t = some (.slice e)) (hv : ∀ w, (zeroValue e).run P w = .ok z w) (hz : z.cells.size = k) (h1 : ∀ v ∈ z.cells.toList, v.oneCell' = true) (b o n c : Nat) (hn : 0 < n)
    (hc : ∀ j, j < n * k → (w.cell? ⟨b, o + j, none⟩).isSome = true) (hf : ∀ j, j < n * k → w.frozen? ⟨b, o + j, none⟩ = false) :
    ∃ zs : List Value, zs.length = n * k ∧ (Builtin.clear_ #[t] ty #[.slice (some ⟨b, o, none⟩) n c]).run P w = .ok (.tuple #[]) (w.setCells b o zs) := by
  have hln : (Builtin.zeroCells z.cells n).toList.length = n * k := by simp [Builtin.zeroCells, hz]
  have hst := run_storeCells_cells (P := P) b o (Builtin.zeroCells z.cells n).toList 0 w (fun j hj => by rw [Nat.add_zero]; exact hc j (by rw [← hln]; exact hj)) (fun j hj => by rw [Nat.add_zero]; exact hf j (by rw [← hln]; exact hj)) (fun v hv' => by
    rw [Builtin.zeroCells, Array.toList_map, List.mem_map] at hv'
    obtain ⟨i, hi, rfl⟩ := hv'
    have hk : 0 < z.cells.size := by
      have hi' : i < n * z.cells.size := by simpa using hi
      rcases Nat.eq_zero_or_pos z.cells.size with h | h
      · rw [h, Nat.mul_zero] at hi'; omega
      · exact h
    have hm : i % z.cells.size < z.cells.size := Nat.mod_lt _ hk
    rw [getElem!_pos z.cells _ hm]
    exact h1 _ (by simp))
  rw [Nat.add_zero] at hst
  refine ⟨_, hln, ?_⟩
  obtain ⟨m, rfl⟩ : ∃ m, n = m + 1 := ⟨n - 1, by omega⟩
  simp [Builtin.clear_, run_underlying ht, hv, hst]
theorem grown_setCells (w : World) (g o : Nat) (vs : List Value) : w.grownBy (w.setCells g o vs) (some g) := by
  induction vs generalizing w o with
  | nil => exact ⟨rfl, rfl, rfl, Nat.le_refl _, fun k _ _ => rfl⟩
  | cons v r ih =>
    have h1 : w.grownBy (w.setCell ⟨g, o, none⟩ v) (some g) := ⟨rfl, rfl, rfl, by simp [World.setCell], fun k hk hne => by
      simp only [World.setCell, Array.getElem?_modify]
      rw [if_neg (fun e => hne (by rw [e]))]⟩
    have h2 := ih (w.setCell ⟨g, o, none⟩ v) (o + 1)
    exact ⟨h2.os.trans h1.os, h2.tape.trans h1.tape, h2.output.trans h1.output, Nat.le_trans h1.size h2.size, fun k hk hne => (h2.block k (Nat.lt_of_lt_of_le hk h1.size) hne).trans (h1.block k hk hne)⟩
theorem grown_trans {a b c : World} {r : Option Nat} (h1 : a.grownBy b r) (h2 : b.grownBy c r) : a.grownBy c r :=
  ⟨h2.os.trans h1.os, h2.tape.trans h1.tape, h2.output.trans h1.output, Nat.le_trans h1.size h2.size, fun k hk hne => (h2.block k (Nat.lt_of_lt_of_le hk h1.size) hne).trans (h1.block k hk hne)⟩
theorem grown_below {a b : World} (r : Option Nat) (h : Below a.heap.size a b) : a.grownBy b r := ⟨h.os, h.tape, h.output, h.size, fun k hk _ => h.block k hk⟩
end Go.Proofs.YtbbkkoeipkigdaaDoor
