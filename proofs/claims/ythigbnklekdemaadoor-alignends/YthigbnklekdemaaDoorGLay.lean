/- The table of two tokens, as align.lay makes it, row by row. -/
import Derived.Test.YthigbnklekdemaaDoorGSame
import Derived.Test.YthigbnklekdemaaDoorAStep
import Derived.Test.YthigbnklekdemaaDoorADist
import Derived.Deep.RegionLaw
import Derived.Deep.RegionHeld3
namespace Go.Proofs.YthigbnklekdemaaDoor
open Go.RowKit Go.Shelf

theorem own_cell' {w : World} {base : Nat} {e : TypeId} {size g cap n : Nat} {xs : List Value} (h : w.ownsRow base e size (.slice (some ⟨g, 0, none⟩) n cap) n xs) (j : Nat) (hj : j < n * size) (u : Value) (hu : xs[j]? = some u) : w.cell? ⟨g, j, none⟩ = some u := by
  rcases h.2 with ⟨h0, _⟩ | ⟨g', cap', cur, e1, hb, hg, h1, h2, h3, h4⟩
  · cases h0
  · simp only [Value.slice.injEq, Option.some.injEq, Addr.mk.injEq] at e1
    obtain ⟨⟨rfl, _⟩, _, rfl⟩ := e1
    rw [cell_of_row w g j cur e (0, 0) hg]
    rw [← h4, List.getElem?_take, if_pos hj] at hu
    simpa using hu
/-- A row of another kind is another block. -/
theorem own_ne {w : World} {base : Nat} {e e' : TypeId} {size n g : Nat} {v : Value} {xs : List Value} {cs : Array Value} (h : w.ownsRow base e size v n xs) (hg : w.heap[g]? = some (.cells cs e')) (hne : e ≠ e') : v.ownBlock ≠ some g := by
  rcases h.2 with ⟨rfl, _⟩ | ⟨g', cap', cur, rfl, hb, hg', h1, h2, h3, h4⟩
  · simp [Value.ownBlock]
  · intro e1
    obtain rfl : g' = g := by simpa [Value.ownBlock] using e1
    rw [hg] at hg'
    simp only [Option.some.injEq, Obj.cells.injEq] at hg'
    exact hne hg'.2.1.symm
theorem grown_of_below {a b : World} (hb : Below a.heap.size a b) (row : Option Nat) : a.grownBy b row := ⟨hb.os, hb.tape, hb.output, hb.size, fun k hk _ => hb.block k hk⟩
theorem grown_setCell (w : World) (g j : Nat) (u : Value) : w.grownBy (w.setCell ⟨g, j, none⟩ u) (some g) :=
  ⟨rfl, rfl, rfl, by simp [World.setCell], fun k _ hne => Below.heap_setCell _ _ _ k (fun e => hne (by rw [e]))⟩

/-- append(v, z) to a row of slices of the call's own. -/
theorem append_row (w : World) (base : Nat) (v : Value) (n : Nat) (xs : List Value) (hown : w.ownsRow base 55 1 v n xs) (z : Value) (hz : z.oneCell' = true) (hbase : base ≤ w.heap.size) (hlen : (n + 1) * 24 ≤ 140737488355328) :
    ∃ v' w', (Builtin.append_ #[43, 43] 43 #[v, .slice (some ⟨w.heap.size, 0, none⟩) 1 1]).run Tryd.prog (w.alloc (.cells #[z] 55)) = .ok v' w' ∧ w'.ownsRow base 55 1 v' (n + 1) (xs ++ [z]) ∧
      (w.alloc (.cells #[z] 55)).grownBy w' v.ownBlock ∧ (v'.ownBlock = v.ownBlock ∨ v'.ownBlock = some (w.heap.size + 1)) := by
  obtain ⟨i0, hi, hz0, hz1, hz2⟩ := info_parts infoS
  obtain ⟨v', w', hrun, h2, h3, _, h5⟩ := run_append_own_at (P := Tryd.prog) (w.alloc (.cells #[z] 55)) base 43 43 55 i0 _ 1 24 Tryd.underlying43 hi hz0 hz1 hz2 rfl (by decide) v n xs (hown.alloc _) ⟨w.heap.size, 0, none⟩ 1 1 [z] (by simp)
    (cell_one_new _ _ _) (by simpa using hz) (by unfold maxLen; omega) hlen (by simp; omega)
  exact ⟨v', w', hrun, h2, h3, by simpa using h5⟩

/-- The box of a table. -/
def TBox (w : World) (Bt : Nat) (u v d : Value) : Prop := w.heap[Bt]? = some (.cells #[u, v, d] 45)
theorem TBox.cell {w : World} {Bt : Nat} {u v d : Value} (h : TBox w Bt u v d) : w.cell? ⟨Bt, 0, none⟩ = some u ∧ w.cell? ⟨Bt, 1, none⟩ = some v ∧ w.cell? ⟨Bt, 2, none⟩ = some d := by
  refine ⟨?_, ?_, ?_⟩ <;> rw [cell_of_row w Bt _ _ _ (0, 0) h] <;> rfl
theorem TBox.lt {w : World} {Bt : Nat} {u v d : Value} (h : TBox w Bt u v d) : Bt < w.heap.size := (Array.getElem?_eq_some_iff.1 h).1
theorem TBox.frozen {w : World} {Bt : Nat} {u v d : Value} (h : TBox w Bt u v d) (j : Nat) : w.frozen? ⟨Bt, j, none⟩ = false := by
  have h' : w.heap[Bt]? = some (.cells #[u, v, d] 45 (0, 0)) := h
  simp [World.frozen?, h']
theorem TBox.set {w : World} {Bt : Nat} {u v d : Value} (h : TBox w Bt u v d) (d' : Value) : TBox (w.setCell ⟨Bt, 2, none⟩ d') Bt u v d' := by
  have h' : w.heap[Bt]? = some (.cells #[u, v, d] 45 (0, 0)) := h
  show _ = some (Obj.cells #[u, v, d'] _)
  rw [setCell_eq_setRow w Bt 2 #[u, v, d] _ (0, 0) _ h']
  exact setRow_heap w Bt _ _ _ (0, 0) h'
theorem TBox.kept {w w' : World} {Bt : Nat} {u v d : Value} {row : Option Nat} (h : TBox w Bt u v d) (hg : w.grownBy w' row) (hne : some Bt ≠ row) : TBox w' Bt u v d := (hg.block Bt h.lt hne).trans h

def rowsV (M : Nat) (gs : List Nat) : List Value := gs.map fun b => Value.slice (some ⟨b, 0, none⟩) M M
/-- A table of which i rows are laid. -/
structure LaidT (w : World) (Z Bt : Nat) (u v d : Value) (x y : List Int) (M i : Nat) (gs : List Nat) : Prop where
  box : TBox w Bt u v d
  row : w.ownsRow Z 55 1 d i (rowsV M gs)
  len : gs.length = i
  rows : ∀ k b, gs[k]? = some b → Bt < b ∧ RowN w b (rowL x y M k)

theorem LaidT.drew {w : World} {Z Bt : Nat} {u v d : Value} {x y : List Int} {M i : Nat} {gs : List Nat} (h : LaidT w Z Bt u v d x y M i gs) : LaidT w.drew Z Bt u v d x y M i gs := ⟨h.box, h.row, h.len, h.rows⟩

/-- Behind 't.least = append(t.least, make(..))'. -/
theorem LaidT.grow {w : World} {Z Bt : Nat} {u v d : Value} {x y : List Int} {M i : Nat} {gs : List Nat} (h : LaidT w Z Bt u v d x y M i gs) (hZ : Z ≤ w.heap.size) (hBZ : Bt < Z) (hi : i ≤ 100) :
    ∃ d' w', (Builtin.append_ #[43, 43] 43 #[d, .slice (some ⟨w.heap.size + 1, 0, none⟩) 1 1]).run Tryd.prog ((w.alloc (.cells (cellsN (List.replicate M 0)) 3)).alloc (.cells #[.slice (some ⟨w.heap.size, 0, none⟩) M M] 55)) = .ok d' w' ∧
      w'.cell? ⟨Bt, 2, none⟩ = some d ∧ w'.frozen? ⟨Bt, 2, none⟩ = false ∧ Below Z w w' ∧ w.heap.size < w'.heap.size ∧
      ∀ W, W = w'.setCell ⟨Bt, 2, none⟩ d' → TBox W Bt u v d' ∧ W.ownsRow Z 55 1 d' (i + 1) (rowsV M (gs ++ [w.heap.size])) ∧ (∀ k b, gs[k]? = some b → Bt < b ∧ b < w.heap.size ∧ RowN W b (rowL x y M k)) ∧ RowN W w.heap.size (List.replicate M 0) ∧ d'.ownBlock ≠ some w.heap.size ∧ w.heap.size < W.heap.size ∧ Below Bt w W := by
  obtain ⟨hb, hr, hl, hrs⟩ := h
  have ha : Below w.heap.size w (w.alloc (.cells (cellsN (List.replicate M 0)) 3)) := (Below.refl _ _).alloc (Nat.le_refl _) _
  obtain ⟨d', w', hrun, hown, hg, hob⟩ := append_row (w.alloc (.cells (cellsN (List.replicate M 0)) 3)) Z d i _ (hr.alloc _) (.slice (some ⟨w.heap.size, 0, none⟩) M M) rfl (by simp; omega) (by omega)
  simp only [World.size_alloc] at hrun hob
  have hg2 : (w.alloc (.cells (cellsN (List.replicate M 0)) 3)).grownBy w' d.ownBlock := (World.grownBy_alloc _ _ _).trans hg
  have hg1 : w.grownBy w' d.ownBlock := (World.grownBy_alloc _ _ _).trans hg2
  have hnB : some Bt ≠ d.ownBlock := fun e => own_ne hr hb (by decide) e.symm
  have hBx : TBox w' Bt u v d := hb.kept hg1 hnB
  have hne : d.ownBlock ≠ some w.heap.size := fun e => by
    have := own_ne (hr.alloc (.cells (cellsN (List.replicate M 0)) 3)) (g := w.heap.size) (heap_alloc_new w _) (by decide)
    exact this e
  have hN : RowN w' w.heap.size (List.replicate M 0) := (hg2.block w.heap.size (by simp) (fun e => hne e.symm)).trans (heap_alloc_new w _)
  have hBl : Below Z w w' := ((Below.refl Z w).grown hg1 hZ (own_block hr))
  refine ⟨d', w', hrun, hBx.cell.2.2, hBx.frozen 2, hBl, hN.lt, ?_⟩
  rintro W rfl
  have hs : ∀ b, b ≠ Bt → (w'.setCell ⟨Bt, 2, none⟩ d').heap[b]? = w'.heap[b]? := fun b hb => Below.heap_setCell _ _ _ b hb
  have hBw := hb.lt
  have hlt := hN.lt
  have hd' : d'.ownBlock ≠ some w.heap.size := own_ne hown hN (by decide)
  have hdB : d'.ownBlock ≠ some Bt := own_ne hown hBx (by decide)
  refine ⟨hBx.set d', ?_, fun k b hk => ?_, (hs _ (by omega)).trans hN, hd', by simpa [World.setCell] using hlt, (hBl.mono (Nat.le_of_lt hBZ)).setCell (Nat.le_refl _) _⟩
  · have := hown.kept (grown_setCell w' Bt 2 d') (.inr hdB)
    simpa [rowsV] using this
  · obtain ⟨h1, h2⟩ := hrs k b hk
    have hlb := h2.lt
    have : RowN w' b (rowL x y M k) := (hg1.block b hlb (fun e => own_ne hr h2 (by decide) e.symm)).trans h2
    exact ⟨h1, hlb, (hs b (by omega)).trans this⟩

/-- A row more is filled. -/
theorem LaidT.next {W w : World} {Z Bt : Nat} {u v d : Value} {x y : List Int} {M i g : Nat} {gs : List Nat} {o : List Nat} (hg : W.grownBy w (some g)) (hb : TBox W Bt u v d) (hr : W.ownsRow Z 55 1 d (i + 1) (rowsV M (gs ++ [g]))) (hl : gs.length = i)
    (hrs : ∀ k b, gs[k]? = some b → Bt < b ∧ b < g ∧ RowN W b (rowL x y M k)) (hd : d.ownBlock ≠ some g) (hgB : Bt < g) (ho : RowN w g o) (hlo : o.length = M) (hv : ∀ k, k < M → o.getD k 0 = tab x y i k) : LaidT w Z Bt u v d x y M (i + 1) (gs ++ [g]) := by
  refine ⟨hb.kept hg (fun e => by cases e; omega), hr.kept hg (.inr hd), by simp [hl], fun k b hk => ?_⟩
  rw [List.getElem?_append] at hk
  split at hk
  · obtain ⟨h1, h2, h3⟩ := hrs k b hk
    exact ⟨h1, (hg.block b h3.lt (fun e => by cases e; omega)).trans h3⟩
  · rename_i hk'
    have e : k - gs.length = 0 := by
      cases hq : k - gs.length with
      | zero => rfl
      | succ q => rw [hq] at hk; simp at hk
    rw [e] at hk
    have hb : g = b := by simpa using hk
    subst hb
    have hki : k = i := by omega
    subst hki
    have : o = rowL x y M k := by
      apply List.ext_getElem?
      intro q
      by_cases hq : q < M
      · have h1 := hv q hq
        have h2 := rowL_getD x y M k q hq
        rw [List.getD_eq_getElem?_getD, List.getElem?_eq_getElem (by omega)] at h1
        rw [List.getD_eq_getElem?_getD, List.getElem?_eq_getElem (by rw [rowL_length]; omega)] at h2
        rw [List.getElem?_eq_getElem (by omega), List.getElem?_eq_getElem (by rw [rowL_length]; omega)]
        simp only [Option.getD_some] at h1 h2
        rw [h1, h2]
      · rw [List.getElem?_eq_none (by omega), List.getElem?_eq_none (by rw [rowL_length]; omega)]
    rw [← this]
    exact ⟨hgB, ho⟩
end Go.Proofs.YthigbnklekdemaaDoor
