/- Rows of blocks or rules as a sort holds them. -/
import Derived.Test.YtbbkkoeipkigdaaDoorPk7
import Derived.Test.YtbbkkoeipkigdaaDoorPk1
import Derived.Sort.OwnSorted
namespace Go.Proofs.YtbbkkoeipkigdaaDoor
open Go.RowKit Go.Shelf Go.Lib
open Go.Sort (grow heap_grow_old putRow mapBlock onCells SWO PermIn SortedIn HoldsK flatK get_flatK size_flatK)
set_option linter.unusedSimpArgs false
set_option linter.unusedVariables false

theorem heap_sortB {w : World} {g n : Nat} {d : Array Blk} {os : Array Obj} : w.grownBy (sortWorldK blkCell 3 w g 0 n d os) (some g) := by
  unfold sortWorldK Go.Sort.putRowK
  refine ⟨rfl, rfl, rfl, by simp, fun k hk hne => ?_⟩
  rw [heap_grow_old _ _ (by simpa using hk)]
  have : g ≠ k := fun e => hne (by rw [e])
  simp [putRow, mapBlock, Go.Sort.ahead, Array.getElem?_modify, this]
theorem flat_at (L : List Blk) (j : Nat) (hj : j < L.length * 3) : ∃ x, L[j / 3]? = some x ∧ (blkCell x)[j % 3]? = some (flatK blkCell 3 L.toArray)[j]! := by
  have hq : j / 3 < L.length := (Nat.div_lt_iff_lt_mul (by decide)).2 hj
  have hm : j % 3 < 3 := Nat.mod_lt _ (by decide)
  refine ⟨L[j / 3], List.getElem?_eq_getElem hq, ?_⟩
  rw [get_flatK _ _ _ _ (by simpa using hj)]
  have e : L.toArray[j / 3]! = L[j / 3] := by simp [hq]
  rw [e]
  have hl : j % 3 < (blkCell L[j / 3]).length := hm
  rw [List.getElem?_eq_getElem hl]
  simp [hl]
theorem holds_blks {w : World} {g n c : Nat} {L : List Blk} (hn : L.length = n) (h : GRuns blkCell 3 w (.slice (some ⟨g, 0, none⟩) n c) L) (hf : ∀ j, w.frozen? ⟨g, j, none⟩ = false) : HoldsK blkCell 3 w g 0 L.toArray := by
  intro j hj
  have hj' : j < L.length * 3 := by simpa using hj
  refine ⟨?_, hf _⟩
  obtain ⟨x, hx, hc⟩ := flat_at L j hj'
  obtain ⟨b, o, e, _, hcell⟩ := h.cells hn (by rw [← hn]; omega)
  have e := Option.some.inj e
  simp only [Addr.mk.injEq] at e
  obtain ⟨rfl, rfl, _⟩ := e
  have h1 := hcell _ x hx _ _ hc
  rw [show 0 + j / 3 * 3 + j % 3 = 0 + j by omega] at h1
  simpa using h1
theorem runs_holds {w : World} {g n c : Nat} {L : List Blk} (hn : L.length = n) (hc : n ≤ c) (hm : c ≤ maxLen) (hg : g < w.heap.size) (h : HoldsK blkCell 3 w g 0 L.toArray) : GRuns blkCell 3 w (.slice (some ⟨g, 0, none⟩) n c) L ∧ ∀ j, j < n * 3 → w.frozen? ⟨g, j, none⟩ = false := by
  subst hn
  refine ⟨⟨_, c, rfl, hc, ⟨hm, fun h => by cases h⟩, fun _ => ⟨g, 0, rfl, hg, fun j x hj i u hu => ?_⟩⟩, fun j hj => ?_⟩
  · have hi : i < 3 := (List.getElem?_eq_some_iff.1 hu).1
    have hjl : j < L.length := (List.getElem?_eq_some_iff.1 hj).1
    have hlt : j * 3 + i < L.length * 3 := by omega
    have h1 := (h (j * 3 + i) (by simpa using hlt)).1
    obtain ⟨x', hx', hc'⟩ := flat_at L (j * 3 + i) hlt
    rw [show (j * 3 + i) / 3 = j by omega] at hx'
    rw [show (j * 3 + i) % 3 = i by omega] at hc'
    rw [hj] at hx'
    obtain rfl := Option.some.inj hx'
    rw [hu] at hc'
    rw [← Option.some.inj hc'] at h1
    rw [← Nat.add_assoc] at h1
    simpa using h1
  · have := (h j (by simpa using hj)).2
    simpa using this

end Go.Proofs.YtbbkkoeipkigdaaDoor
