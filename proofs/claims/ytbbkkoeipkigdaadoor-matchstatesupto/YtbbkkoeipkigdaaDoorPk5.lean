/- Texts that several proofs of this seat share, one behind the other: AStep ADist GLay GLay2 ASteps ASteps2 ASame ALaw1 GDist GIter GRev GSteps RefEncode ACheck ACheck2 ARead ALaw2 GRead GRead2 GCost GAlive ABackP BLawP BRef. -/
import Derived.Test.YtbbkkoeipkigdaaDoorPk4
import Derived.Test.YtbbkkoeipkigdaaDoorPk3
import Derived.Deep.RegionLaw
import Derived.Deep.RegionHeld3
import Derived.StillTailTactics
import Derived.Laws.StructEq
import Derived.WalkMore
import Derived.BigRegion
import Derived.Shelf.SlicesQ.Reverse
import Derived.Shelf.SlGeneric
/- Slices of steps: a value that reads as a list of them. -/
namespace Go.Proofs.YtbbkkoeipkigdaaDoor
open Go.RowKit Go.Shelf

def stCell (p : St) : List Value := [.int .i64 p.1, .int .i32 p.2.1, .int .i32 p.2.2]
def stCells (l : List St) : List Value := l.flatMap stCell
theorem stCells_len (l : List St) : (stCells l).length = l.length * 3 := by
  induction l with
  | nil => rfl
  | cons p l ih => simp [stCells, stCell] at ih ⊢; omega
theorem st_one (x : St) : ∀ u ∈ stCell x, u.oneCell' = true := by
  intro u hu; simp [stCell] at hu; rcases hu with rfl | rfl | rfl <;> rfl
/-- The slice value v reads as the steps l. -/
def StRuns (w : World) (v : Value) (l : List St) : Prop :=
  ∃ A c, v = .slice A l.length c ∧ l.length ≤ c ∧ (c ≤ maxLen ∧ (A = none → c = 0)) ∧
    (0 < l.length → ∃ b o, A = some ⟨b, o, none⟩ ∧ b < w.heap.size ∧ ∀ j, j < l.length →
      w.cell? ⟨b, o + j * 3, none⟩ = some (.int .i64 (l.getD j (0, 0, 0)).1) ∧ w.cell? ⟨b, o + j * 3 + 1, none⟩ = some (.int .i32 (l.getD j (0, 0, 0)).2.1) ∧ w.cell? ⟨b, o + j * 3 + 2, none⟩ = some (.int .i32 (l.getD j (0, 0, 0)).2.2))
theorem StRuns.below {w w' : World} {v : Value} {l : List St} (h : StRuns w v l) (hb : Below w.heap.size w w') : StRuns w' v l := by
  obtain ⟨A, c, e, hc, hm, hx⟩ := h
  refine ⟨A, c, e, hc, hm, fun h0 => ?_⟩
  obtain ⟨b, o, eA, hlt, hcell⟩ := hx h0
  exact ⟨b, o, eA, Nat.lt_of_lt_of_le hlt hb.size, fun j hj => ⟨(hb.cell (p := ⟨b, _, none⟩) hlt).trans (hcell j hj).1, (hb.cell (p := ⟨b, _, none⟩) hlt).trans (hcell j hj).2.1, (hb.cell (p := ⟨b, _, none⟩) hlt).trans (hcell j hj).2.2⟩⟩
theorem StRuns.nil_ (w : World) : StRuns w (.slice none 0 0) [] := ⟨none, 0, rfl, by simp, by simp [maxLen], fun h => absurd h (by simp)⟩
theorem stCells_at (l : List St) (j i : Nat) (hj : j < l.length) (hi : i < 3) : (stCells l)[j * 3 + i]? = (stCell (l.getD j (0, 0, 0)))[i]? := by
  induction l generalizing j with
  | nil => simp at hj
  | cons p l ih =>
    cases j with
    | zero =>
      show (stCell p ++ stCells l)[0 * 3 + i]? = _
      rw [List.getElem?_append_left (by simp [stCell]; omega)]; simp
    | succ j =>
      show (stCell p ++ stCells l)[(j + 1) * 3 + i]? = _
      rw [List.getElem?_append_right (by simp [stCell]; omega)]
      have := ih j (by simpa using hj)
      rw [show (j + 1) * 3 + i - (stCell p).length = j * 3 + i by simp [stCell]; omega, this]
      simp
theorem StRuns.of_own {w : World} {base : Nat} {v : Value} {n : Nat} {l : List St} {e : TypeId} (h : w.ownsRow base e 3 v n (stCells l)) : StRuns w v l := by
  obtain ⟨hlen, hv⟩ := h
  have hn : l.length = n := by rw [stCells_len] at hlen; omega
  subst hn
  rcases hv with ⟨rfl, h0⟩ | ⟨g, cap, cur, rfl, _, hg, hle, hcap, hsz, htk⟩
  · exact ⟨none, 0, by rw [h0], by omega, by simp [maxLen], fun hp => absurd hp (by omega)⟩
  · refine ⟨_, cap, rfl, hle, ⟨hcap, fun h => by cases h⟩, fun _ => ⟨g, 0, rfl, (Array.getElem?_eq_some_iff.1 hg).1, fun j hj => ?_⟩⟩
    have key : ∀ i, i < 3 → w.cell? ⟨g, 0 + j * 3 + i, none⟩ = (stCell (l.getD j (0, 0, 0)))[i]? := by
      intro i hi
      rw [cell_of_row w g (0 + j * 3 + i) cur e (0, 0) hg]
      have h2 := stCells_at l j i hj hi
      rw [← htk, List.getElem?_take, if_pos (by omega)] at h2
      simpa using h2
    exact ⟨key 0 (by decide), key 1 (by decide), key 2 (by decide)⟩
end Go.Proofs.YtbbkkoeipkigdaaDoor

/- Two tokens' runes, and how far they are apart, as errataref04 tells it. -/
namespace Go.Proofs.YtbbkkoeipkigdaaDoor
open Go.RowKit Go.Shelf

theorem tok_len {l : List UInt8} (h : tokErr l = 0) : (tokRunes l).length ≤ 64 ∧ 0 < (tokRunes l).length := by
  have e : tokRunes l = items l := by unfold tokRunes; rw [if_pos h]
  unfold tokErr at h
  rw [e]
  by_cases hv : Lib.validD l = true
  · rw [if_pos hv] at h
    by_cases h0 : (items l).length = 0
    · rw [if_pos h0] at h; cases h
    · rw [if_neg h0] at h
      by_cases h1 : 64 < (items l).length
      · rw [if_pos h1] at h; cases h
      · omega
  · rw [if_neg hv] at h; cases h

/-- The first error of two tokens. -/
def tokErr2 (s t : List UInt8) : Int := if tokErr s = 0 then tokErr t else tokErr s
/-- How far two tokens are apart, or 0. -/
def distS (s t : List UInt8) : Nat := if tokErr2 s t = 0 then levR (tokRunes s).reverse (tokRunes t).reverse else 0

end Go.Proofs.YtbbkkoeipkigdaaDoor

/- The table of two tokens, as align.lay makes it, row by row. -/
namespace Go.Proofs.YtbbkkoeipkigdaaDoor
open Go.RowKit Go.Shelf

theorem own_cell' {w : World} {base : Nat} {e : TypeId} {size g cap n : Nat} {xs : List Value} (h : w.ownsRow base e size (.slice (some ⟨g, 0, none⟩) n cap) n xs) (j : Nat) (hj : j < n * size) (u : Value) (hu : xs[j]? = some u) : w.cell? ⟨g, j, none⟩ = some u := by
  rcases h.2 with ⟨h0, _⟩ | ⟨g', cap', cur, e1, hb, hg, h1, h2, h3, h4⟩
  · cases h0
  · simp only [Value.slice.injEq, Option.some.injEq, Addr.mk.injEq] at e1
    obtain ⟨⟨rfl, _⟩, _, rfl⟩ := e1
    rw [cell_of_row w g j cur e (0, 0) hg]
    rw [← h4, List.getElem?_take, if_pos hj] at hu
    simpa using hu
/-- A row of another kind is another block. -/
theorem own_ne {w : World} {base : Nat} {e e' : TypeId} {size n g : Nat} {v : Value} {xs : List Value} {cs : Array Value} (h : w.ownsRow base e size v n xs) (hg : w.heap[g]? = some (.cells cs e')) (hne : e ≠ e') : v.ownBlock ≠ some g := by
  rcases h.2 with ⟨rfl, _⟩ | ⟨g', cap', cur, rfl, hb, hg', h1, h2, h3, h4⟩
  · simp [Value.ownBlock]
  · intro e1
    obtain rfl : g' = g := by simpa [Value.ownBlock] using e1
    rw [hg] at hg'
    simp only [Option.some.injEq, Obj.cells.injEq] at hg'
    exact hne hg'.2.1.symm
theorem grown_of_below {a b : World} (hb : Below a.heap.size a b) (row : Option Nat) : a.grownBy b row := ⟨hb.os, hb.tape, hb.output, hb.size, fun k hk _ => hb.block k hk⟩
theorem grown_setCell (w : World) (g j : Nat) (u : Value) : w.grownBy (w.setCell ⟨g, j, none⟩ u) (some g) :=
  ⟨rfl, rfl, rfl, by simp [World.setCell], fun k _ hne => Below.heap_setCell _ _ _ k (fun e => hne (by rw [e]))⟩

def rowsV (M : Nat) (gs : List Nat) : List Value := gs.map fun b => Value.slice (some ⟨b, 0, none⟩) M M
end Go.Proofs.YtbbkkoeipkigdaaDoor

/- align.lay: the table of two tokens. -/
namespace Go.Proofs.YtbbkkoeipkigdaaDoor
open Go.RowKit Go.Shelf

theorem step_append_run' {P : Program} {ops : Array Oper} {o : Oper} {a : Act} {w : World} {K : Act → World → Prop} {Q : Exit → Act → World → Prop} {E : Prop} (hgd : o.guard = none) (s x : Operand) (t : TypeId) (v u v' : Value) (w' : World)
    (ho : o.op = .call { callee := .builtin .append, args := #[s, x], argTypes := #[t, t] }) (hrun : (Builtin.append_ #[t, t] o.type #[v, u]).run P w = .ok v' w') (hs : a.eval s = v) (hx : a.eval x = u)
    (h : K (a.put o.dst v') w') : if Region.wanted o (yielded ops a.tmps) = true then Oper.wp P o a w K Q else E := by
  have hw : Region.wanted o (yielded ops a.tmps) = true := by simp [Region.wanted, hgd]
  rw [if_pos hw]
  unfold Oper.wp
  simp [execOp, ho, resolve, invoke, builtin, hs, hx, hrun, Result.andThen]
  exact h

theorem cell_set_ne (w : World) (g j : Nat) (u : Value) (b o : Nat) (h : b ≠ g) : (w.setCell ⟨g, j, none⟩ u).cell? ⟨b, o, none⟩ = w.cell? ⟨b, o, none⟩ := World.cell?_of_block (Below.heap_setCell _ _ _ b h)

theorem cells_set {w : World} {B j : Nat} {cs : Array Value} {ty : TypeId} (h : w.heap[B]? = some (.cells cs ty)) (u : Value) : (w.setCell ⟨B, j, none⟩ u).heap[B]? = some (.cells (cs.setIfInBounds j u) ty) := by
  have h' : w.heap[B]? = some (.cells cs ty (0, 0)) := h
  rw [setCell_eq_setRow w B j cs _ (0, 0) _ h']
  exact setRow_heap w B _ _ _ (0, 0) h'
/-- A row of runes is kept where a block of another kind is turned. -/
theorem Runs.aside {w w' : World} {v : Value} {l : List Int} (h : Runs w v l) (R : Nat) (hR : ∀ k z, w.cell? ⟨R, k, none⟩ ≠ some (.int .i32 z)) (hz : w.heap.size ≤ w'.heap.size) (hk : ∀ b, b ≠ R → b < w.heap.size → w'.heap[b]? = w.heap[b]?) : Runs w' v l := by
  obtain ⟨A, c, e, hc, hm, hx⟩ := h
  refine ⟨A, c, e, hc, hm, fun h0 => ?_⟩
  obtain ⟨b, o, eA, hlt, hcell⟩ := hx h0
  have hne : b ≠ R := fun e => by
    have := hcell 0 h0
    rw [e] at this
    exact hR _ _ this
  exact ⟨b, o, eA, Nat.lt_of_lt_of_le hlt hz, fun j hj => (World.cell?_of_block (hk b hne hlt)).trans (hcell j hj)⟩

/-- A region that comes to one end. -/
def OnlyAt (F : Act) (W : World) : Exit → Act → World → Prop
  | .normal, a, w => a = F ∧ w = W
  | _, _, _ => False
theorem wp_region_at {P : Program} {id : Nat} {ops : Array Oper} {b : Bool} {Q : Exit → Act → World → Prop} {a : Act} {w : World} (F : Act) (W : World)
    (h1 : (Code.region id ops b).wp P (OnlyAt F W) a w) (h2 : Q .normal F W) : (Code.region id ops b).wp P Q a w :=
  Code.wp_mono (fun e a w h => by
    cases e
    case normal => obtain ⟨rfl, rfl⟩ := h; exact h2
    all_goals exact (h : False).elim) h1

/-- A table that is laid: what it answers at each place. -/
def TabR (w : World) (d : Value) (x y : List Int) : Prop :=
  ∃ G dc, d = .slice (some ⟨G, 0, none⟩) (x.length + 1) dc ∧ ∀ i, i ≤ x.length → ∃ b, w.cell? ⟨G, i, none⟩ = some (.slice (some ⟨b, 0, none⟩) (y.length + 1) (y.length + 1)) ∧ ∀ j, j ≤ y.length → w.cell? ⟨b, j, none⟩ = some (.int .i64 (tab x y i j : Nat))

end Go.Proofs.YtbbkkoeipkigdaaDoor

/- The steps of two tokens, as errataref04.Steps tells them. -/
namespace Go.Proofs.YtbbkkoeipkigdaaDoor
open Go.RowKit Go.Shelf

theorem step_append_run {P : Program} {ops : Array Oper} {o : Oper} {a : Act} {w : World} {K : Act → World → Prop} {Q : Exit → Act → World → Prop} {E : Prop} (hgd : o.guard = none) (s x : Operand) (t : TypeId) (v u v' : Value) (w' : World)
    (ho : o.op = .call { callee := .builtin .append, args := #[s, x], argTypes := #[t, t] }) (hrun : (Builtin.append_ #[t, t] o.type #[v, u]).run P w = .ok v' w') (hs : a.eval s = v) (hx : a.eval x = u)
    (h : K (a.put o.dst v') w') : if Region.wanted o (yielded ops a.tmps) = true then Oper.wp P o a w K Q else E := by
  have hw : Region.wanted o (yielded ops a.tmps) = true := by simp [Region.wanted, hgd]
  rw [if_pos hw]
  unfold Oper.wp
  simp [execOp, ho, resolve, invoke, builtin, hs, hx, hrun, Result.andThen]
  exact h
theorem stCells_snoc (l : List St) (s : St) : stCells (l ++ [s]) = stCells l ++ stCell s := by simp [stCells]
end Go.Proofs.YtbbkkoeipkigdaaDoor

/- The steps of two tokens, or the error, as errataref04.Steps tells them. -/
namespace Go.Proofs.YtbbkkoeipkigdaaDoor
open Go.RowKit Go.Shelf

/-- The steps of two tokens, in order, or none. -/
def stepsS (s t : List UInt8) : List St := if tokErr2 s t = 0 then (pathR (tokRunes s).reverse (tokRunes t).reverse).reverse else []

end Go.Proofs.YtbbkkoeipkigdaaDoor

/- The same steps, as errataref04.Same tells it. -/
namespace Go.Proofs.YtbbkkoeipkigdaaDoor
open Go.RowKit Go.Shelf

theorem getD_eq_of (x y : List St) (k : Nat) (h : x.getD k (0, 0, 0) ≠ y.getD k (0, 0, 0)) : x ≠ y := by
  rintro rfl; exact h rfl
theorem take_eq_all {α : Type} (x y : List α) (h : x.length = y.length) (ht : x.take x.length = y.take x.length) : x = y := by
  rw [List.take_length] at ht; rw [ht, List.take_of_length_le (by omega)]
theorem take_succ_eq {α : Type} (d : α) (x y : List α) (k : Nat) (hx : k < x.length) (hy : k < y.length) (h : x.take k = y.take k) (he : x.getD k d = y.getD k d) : x.take (k + 1) = y.take (k + 1) := by
  rw [List.take_succ_eq_append_getElem hx, List.take_succ_eq_append_getElem hy, h]
  simp [List.getD_eq_getElem?_getD, hx, hy] at he
  rw [he]

end Go.Proofs.YtbbkkoeipkigdaaDoor

/- The law AlignSteps, walked over what align's functions answer. -/
namespace Go.Proofs.YtbbkkoeipkigdaaDoor
open Go.RowKit Go.Shelf


end Go.Proofs.YtbbkkoeipkigdaaDoor

/- align.Distance: how far two tokens are apart, or why one of them is none. -/
namespace Go.Proofs.YtbbkkoeipkigdaaDoor
open Go.RowKit Go.Shelf

theorem TabR.at {w w' : World} {d : Value} {x y : List Int} (h : TabR w d x y) (hb : Below w.heap.size w w') : TabR w' d x y := by
  obtain ⟨G, dc, e, hx⟩ := h
  refine ⟨G, dc, e, fun i hi => ?_⟩
  obtain ⟨b, h1, h2⟩ := hx i hi
  exact ⟨b, (hb.cell (cell_lt h1)).trans h1, fun j hj => (hb.cell (cell_lt (h2 j hj))).trans (h2 j hj)⟩

end Go.Proofs.YtbbkkoeipkigdaaDoor

/- The steps that the table's way back hands on: the iterator's contract. -/
namespace Go.Proofs.YtbbkkoeipkigdaaDoor
open Go.RowKit Go.Shelf
attribute [local go_sem] Oper.semAt_some

/-- A step as a value. -/
def stV (p : St) : Value := .agg #[.int .i64 p.1, .int .i32 p.2.1, .int .i32 p.2.2]

/-- The way back from two beginnings: the step, and where it leads. -/
theorem back_nil (x y : List Int) : pathR (x.take 0).reverse (y.take 0).reverse = [] := by
  rw [List.take_zero, List.take_zero, List.reverse_nil, pathR]

end Go.Proofs.YtbbkkoeipkigdaaDoor

/- slices.Reverse at steps: the library's contract at this program's numbers, and what it does to a row of the call's own. -/
namespace Go.Proofs
open Go.Shelf
end Go.Proofs
namespace Go.Proofs.YtbbkkoeipkigdaaDoor
open Go.RowKit Go.Shelf Go.Sort

end Go.Proofs.YtbbkkoeipkigdaaDoor

/- align.Steps: the alignment of two tokens, or why one of them is none. -/
namespace Go.Proofs.YtbbkkoeipkigdaaDoor
open Go.RowKit Go.Shelf
attribute [local go_sem] Oper.semAt_some stV

/-- Steps are kept where no block that holds cells is turned. -/
theorem StRuns.kept {w w' : World} {v : Value} {l : List St} (h : StRuns w v l) (hz : w.heap.size ≤ w'.heap.size) (hk : ∀ b k z, w.cell? ⟨b, k, none⟩ = some z → w'.heap[b]? = w.heap[b]?) : StRuns w' v l := by
  obtain ⟨A, c, e, hc, hm, hx⟩ := h
  refine ⟨A, c, e, hc, hm, fun h0 => ?_⟩
  obtain ⟨b, o, eA, hlt, hcell⟩ := hx h0
  have hb := hk b _ _ (hcell 0 h0).1
  exact ⟨b, o, eA, Nat.lt_of_lt_of_le hlt hz, fun j hj => ⟨(World.cell?_of_block hb).trans (hcell j hj).1, (World.cell?_of_block hb).trans (hcell j hj).2.1, (World.cell?_of_block hb).trans (hcell j hj).2.2⟩⟩

theorem own_not {w : World} {base : Nat} {e : TypeId} {size n g : Nat} {v : Value} {xs : List Value} {o : Option (List Deferred)} (h : w.ownsRow base e size v n xs) (hg : w.heap[g]? = some (.deferred o)) : v.ownBlock ≠ some g := by
  rcases h.2 with ⟨rfl, _⟩ | ⟨g', cap', cur, rfl, hb, hg', h1, h2, h3, h4⟩
  · simp [Value.ownBlock]
  · intro e1
    obtain rfl : g' = g := by simpa [Value.ownBlock] using e1
    rw [hg] at hg'
    cases hg'
theorem pathR_length (xs ys : List Int) : (pathR xs ys).length ≤ xs.length + ys.length := by
  match xs, ys with
  | [], [] => rw [pathR]; simp
  | [], y :: ys => have := pathR_length [] ys; rw [pathR]; simp at this ⊢; omega
  | x :: xs, [] => have := pathR_length xs []; rw [pathR]; simp at this ⊢; omega
  | x :: xs, y :: ys =>
    have h1 := pathR_length xs ys
    have h2 := pathR_length xs (y :: ys)
    have h3 := pathR_length (x :: xs) ys
    rw [pathR]
    simp only [List.length_cons] at h2 h3 ⊢
    split
    · simp; omega
    · split
      · simp; omega
      · split
        · simp; omega
        · simp; omega
termination_by xs.length + ys.length

end Go.Proofs.YtbbkkoeipkigdaaDoor

/- errataref01.Encode: the document's text of any numbers. -/
namespace Go.Proofs.YtbbkkoeipkigdaaDoor
open Go.RowKit Go.Shelf

theorem info8 : (Tryd.prog.info? 5).map (fun i => (i.zero, i.size, i.bytes)) = some (some (.int .u8 0), 1, 1) := by kernel_rfl
theorem bcells_one (l : List UInt8) : ∀ u ∈ Lib.byteCells l, u.oneCell' = true := by
  intro u hu
  obtain ⟨b, _, rfl⟩ := List.mem_map.1 hu
  rfl
/-- append(v, x...) of a row of bytes of the call's own and a new block of bytes. -/
theorem append_bytes (w : World) (base : Nat) (v : Value) (n : Nat) (xs : List Value) (hown : w.ownsRow base 5 1 v n xs) (l : List UInt8) (hbase : base ≤ w.heap.size) (hlen : n + l.length ≤ 140737488355328) :
    ∃ v' w', (Builtin.append_ #[88, 88] 88 #[v, .slice (some ⟨w.heap.size, 0, none⟩) l.length l.length]).run Tryd.prog (w.alloc (.cells (Lib.byteCells l).toArray 5)) = .ok v' w' ∧ w'.ownsRow base 5 1 v' (n + l.length) (xs ++ Lib.byteCells l) ∧ Below w.heap.size w (w.alloc (.cells (Lib.byteCells l).toArray 5)) ∧ (w.alloc (.cells (Lib.byteCells l).toArray 5)).grownBy w' v.ownBlock := by
  obtain ⟨i0, hi, hz0, hz1, hz2⟩ := info_parts info8
  have hba : Below w.heap.size w (w.alloc (.cells (Lib.byteCells l).toArray 5)) := (Below.refl _ _).alloc (Nat.le_refl _) _
  obtain ⟨v', w', hrun, h2, h3, _, _⟩ := run_append_own_at (P := Tryd.prog) (w.alloc (.cells (Lib.byteCells l).toArray 5)) base 88 88 5 i0 _ 1 1 Tryd.underlying88 hi hz0 hz1 hz2 rfl (by decide) v n xs (own_below hown hba) ⟨w.heap.size, 0, none⟩ l.length l.length (Lib.byteCells l) (by simp [Lib.byteCells_length])
    (fun j u hj => by
      rw [addr_add, cell_of_row _ _ _ _ _ _ (heap_alloc_new w _)]
      simpa using hj) (bcells_one l) (by unfold maxLen; omega) (by omega) (Nat.le_trans hbase hba.size)
  exact ⟨v', w', hrun, h2, hba, h3⟩
/-- string(b) of a row of bytes of the call's own. -/
theorem conv_own (w : World) (base : Nat) (v : Value) (l : List UInt8) (n : Nat) (h : w.ownsRow base 5 1 v n (Lib.byteCells l)) : (convert 88 9 v).run Tryd.prog w = .ok (.string ⟨l.toArray⟩) w := by
  have hn : l.length = n := by have := h.1; simpa [Lib.byteCells_length] using this
  rcases h.2 with ⟨rfl, h0⟩ | ⟨g, cap, cur, rfl, _, hg, hle, _, hsz, htk⟩
  · have hl : l = [] := List.eq_nil_of_length_eq_zero (by omega)
    subst hl
    rw [run_convert_bytes_string w 88 9 5 none 0 0 Tryd.underlying88 Tryd.underlying5 Tryd.underlying9]
    rfl
  · subst hn
    refine run_convert_bytes_back (P := Tryd.prog) w 88 9 5 ⟨g, 0, none⟩ cap l Tryd.underlying88 Tryd.underlying5 Tryd.underlying9 (fun j hj => ?_)
    rw [addr_add, cell_of_row w g (0 + j) cur 5 (0, 0) hg]
    have h2 : (cur.toList.take (l.length * 1))[j]? = some (Value.int .u8 (l[j].toNat : Int)) := by
      rw [htk]; simp [Lib.byteCells, hj]
    rw [List.getElem?_take, if_pos (by omega)] at h2
    simpa using h2

set_option maxRecDepth 100000 in
set_option maxHeartbeats 2000000 in
theorem refEncode_any (u : Value) (l : List Int) (w : World) (hu : Runs w u l) (hlen : l.length * 4 + 4 ≤ 140737488355328) :
    Calls Tryd.prog 55 #[u] w fun e w' => e = .returned (.tuple #[.string ⟨(encS l).toArray⟩, .int .i64 (encErr l)]) ∧ Below w.heap.size w w' := by
  obtain ⟨A, c, rfl, hxc, ⟨hxm, _⟩, hxx⟩ := hu
  unfold maxLen at hxm
  obtain ⟨n, hn⟩ : ∃ n, l.length = n := ⟨_, rfl⟩
  rw [hn] at hxc hxx hlen ⊢
  have Hn := Lib.hid hn; clear hn
  have HX := Lib.hid hxx; clear hxx
  obtain ⟨es, hes⟩ : ∃ es, encS l = es := ⟨_, rfl⟩
  obtain ⟨ee, hee⟩ : ∃ ee, encErr l = ee := ⟨_, rfl⟩
  rw [hes, hee]
  have Hes := Lib.hid hes; clear hes
  have Hee := Lib.hid hee; clear hee
  go_enter Tryd.func55, Tryd.ntmps55
  go_wp2
  go_loopw [4, 9] (fun s4 i wr => ∃ k : Nat, k ≤ n ∧ i = .int .i64 k ∧ wr.ownsRow w.heap.size 5 1 s4 (encL (l.take k)).length (Lib.byteCells (encL (l.take k))) ∧ Below w.heap.size w wr ∧ Hid (allRunes (l.take k) = true)) (fun _ i _ => n - (RowKit.intOf i).toNat)
  case atStart => exact ⟨0, Nat.zero_le _, rfl, by simpa [encL, Lib.byteCells] using World.ownsRow_nil _ _ _ _, Below.refl _ w, Lib.hid (by simp [allRunes])⟩
  case round =>
    obtain ⟨k, hk, rfl, hrow, hB, HA⟩ := hrel
    by_cases hlt : k < n
    · obtain ⟨b, o, rfl, hb, hc1⟩ := HX.out (by omega)
      have e1 := (hB.cell (p := ⟨b, o + k, none⟩) hb).trans (hc1 k hlt)
      have t1 := encL_take l k (by rw [Hn.out]; exact hlt)
      have t2 := all_take l k (by rw [Hn.out]; exact hlt)
      have t3 := all_no l k (by rw [Hn.out]; exact hlt)
      obtain ⟨r, hr1⟩ : ∃ r, l.getD k 0 = r := ⟨_, rfl⟩
      rw [hr1] at e1 t1 t2 t3
      have T1 := Lib.hid t1; have T2 := Lib.hid t2; have T3 := Lib.hid t3
      clear t1 t2 t3 hr1 hc1
      have i1 : (k : Int) < (n : Int) := by omega
      have c1 := isRune_any r wr
      cases hv : Lib.validRune r
      · rw [hv] at c1
        have C1 := Lib.hid c1
        have HV := Lib.hid hv
        clear c1 hv
        go_wp2_with (go_at_call 71; refine C1.out.mono ?_; rintro e w' ⟨rfl, rfl⟩)
        go_ret2
        have h0 := T3.out HV.out
        exact ⟨by rw [← Hes.out, ← Hee.out]; simp [encS, encErr, h0], hB⟩
      · rw [hv] at c1
        have C1 := Lib.hid c1
        have HV := Lib.hid hv
        clear c1 hv
        have hle : (encL (l.take k)).length + (Lib.encodeRune r).length ≤ 140737488355328 := by
          have h1 := encL_le (l.take k); rw [List.length_take] at h1
          have h2 := encodeRune_len r; omega
        obtain ⟨v', w', hrun, hown, hba, hg⟩ := append_bytes wr w.heap.size _ _ _ hrow (Lib.encodeRune r) hB.size hle
        have hB2 : Below w.heap.size w w' := (hB.trans (hba.mono hB.size)).grown hg (Nat.le_trans hB.size hba.size) (own_block hrow)
        have C2 := Lib.hid (bytes_any r wr HV.out)
        obtain ⟨O, hO⟩ : ∃ O, Obj.cells (Lib.byteCells (Lib.encodeRune r)).toArray 5 = O := ⟨_, rfl⟩
        obtain ⟨q, hq⟩ : ∃ q, (Lib.encodeRune r).length = q := ⟨_, rfl⟩
        rw [hO] at hrun C2
        rw [hq] at hrun C2
        have HR := Lib.hid hrun
        clear hrun hle hba hg hO hq
        go_wp2_with (first
          | (go_at_call 71; refine C1.out.mono ?_; rintro e w' ⟨rfl, rfl⟩)
          | (go_at_call 72; refine C2.out.mono ?_; rintro e w' ⟨rfl, rfl⟩)
          | (at_builtin; refine wpList_append_run (.tmp 16) (.tmp 18) 88 _ _ _ _ HR.out rfl rfl rfl rfl ?_))
        go_roundw
        case rel => exact ⟨k + 1, by omega, by go_num, by rw [T1.out, Lib.byteCells_append]; simpa using hown, hB2, Lib.hid (by rw [T2.out, HA.out, HV.out]; rfl)⟩
        case measure => simp [RowKit.intOf]; omega
    · obtain rfl : n = k := by omega
      have hcv := conv_own wr w.heap.size _ _ _ hrow
      have ht : l.take n = l := List.take_of_length_le (by rw [Hn.out]; exact Nat.le_refl _)
      have h0 : allRunes l = true := by have := HA.out; rwa [ht] at this
      rw [ht] at hcv
      have he : encL l = es := by rw [← Hes.out]; simp [encS, h0]
      have hee : (0 : Int) = ee := by rw [← Hee.out]; simp [encErr, h0]
      rw [he] at hcv
      have HE := Lib.hid hee
      clear ht h0 he hrow hee
      go_wp2
      go_ret2
      exact ⟨by rw [← HE.out]; rfl, hB⟩
end Go.Proofs.YtbbkkoeipkigdaaDoor

/- Steps that may be, what they are of, how many aren't matches, as errataref04 tells it. -/
namespace Go.Proofs.YtbbkkoeipkigdaaDoor
open Go.RowKit Go.Shelf

theorem stC_append (a b : List St) : stC (a ++ b) = stC a + stC b := by
  induction a with
  | nil => simp [stC]
  | cons s a ih => simp only [List.cons_append, stC, ih]; omega
theorem stC_take (l : List St) (k : Nat) (hk : k < l.length) : stC (l.take (k + 1)) = stC (l.take k) + if (l.getD k (0, 0, 0)).1 = 0 then 0 else 1 := by
  rw [List.take_add_one, stC_append]
  simp [List.getElem?_eq_getElem hk, stC, List.getD_eq_getElem?_getD]
theorem stC_len (l : List St) : stC l ≤ l.length := by
  induction l with
  | nil => simp [stC]
  | cons s l ih => simp only [stC, List.length_cons]; split <;> omega

end Go.Proofs.YtbbkkoeipkigdaaDoor

/- Steps that may be, as errataref04.Check tells it. -/
namespace Go.Proofs.YtbbkkoeipkigdaaDoor
open Go.RowKit Go.Shelf

/-- A step may be, its runes as layer 1 has them. -/
def stGood (s : St) : Bool := Lib.validRune s.2.1 && Lib.validRune s.2.2 && (decide (s.1 = 0 ∧ s.2.1 = s.2.2) || decide (s.1 = 1 ∧ s.2.1 ≠ s.2.2) || decide (s.1 = 2 ∧ s.2.2 = 0) || decide (s.1 = 3 ∧ s.2.1 = 0))

end Go.Proofs.YtbbkkoeipkigdaaDoor

/- What steps are of, as errataref04.Read tells it. -/
namespace Go.Proofs.YtbbkkoeipkigdaaDoor
open Go.RowKit Go.Shelf

set_option maxRecDepth 100000 in
set_option maxHeartbeats 1000000 in
theorem refText_any (u : Value) (l : List Int) (w : World) (hu : Runs w u l) (hlen : l.length * 4 + 4 ≤ 140737488355328) :
    Calls Tryd.prog 32 #[u] w fun e w' => e = .returned (.string ⟨(encS l).toArray⟩) ∧ Below w.heap.size w w' := by
  have C := Lib.hid (refEncode_any u l w hu hlen)
  go_enter Tryd.func32, Tryd.ntmps32
  go_wp2_with fail
  refine C.out.mono ?_
  rintro e w1 ⟨rfl, hb⟩
  go_wp2
  go_ret
  exact ⟨rfl, hb⟩

/-- Two rows of runes of the call's own, side by side. -/
def Two (w : World) (base : Nat) (a : Value) (xs : List Int) (b : Value) (ys : List Int) : Prop :=
  w.ownsRow base 21 1 a xs.length (xs.map (Value.int .i32)) ∧ w.ownsRow base 21 1 b ys.length (ys.map (Value.int .i32)) ∧ (a.ownBlock = none ∨ a.ownBlock ≠ b.ownBlock)
theorem own_lt {w : World} {base : Nat} {e : TypeId} {size n : Nat} {v : Value} {xs : List Value} (h : w.ownsRow base e size v n xs) : ∀ g, v.ownBlock = some g → g < w.heap.size := by
  intro g hg
  rcases h.2 with ⟨rfl, _⟩ | ⟨g', cap, cur, rfl, _, hh, _⟩
  · simp [Value.ownBlock] at hg
  · obtain rfl : g' = g := by simpa [Value.ownBlock] using hg
    exact (Array.getElem?_eq_some_iff.1 hh).1
theorem Two.swap {w : World} {base : Nat} {a b : Value} {xs ys : List Int} (h : Two w base a xs b ys) : Two w base b ys a xs := by
  refine ⟨h.2.1, h.1, ?_⟩
  rcases h.2.2 with h0 | h0
  · cases hb : b.ownBlock with
    | none => exact .inl rfl
    | some g => exact .inr (by rw [h0]; simp)
  · exact .inr (fun e => h0 e.symm)
theorem Two.alloc {w : World} {base : Nat} {a b : Value} {xs ys : List Int} (h : Two w base a xs b ys) (o : Obj) : Two (w.alloc o) base a xs b ys :=
  ⟨h.1.alloc o, h.2.1.alloc o, h.2.2⟩
/-- append(a, r). -/
theorem Two.append {w : World} {base : Nat} {a b : Value} {xs ys : List Int} (h : Two w base a xs b ys) (r : Int) (hbase : base ≤ w.heap.size) (hlen : (xs.length + 1) * 4 ≤ 140737488355328) :
    ∃ v' w', (Builtin.append_ #[46, 46] 46 #[a, .slice (some ⟨w.heap.size, 0, none⟩) 1 1]).run Tryd.prog (w.alloc (.cells #[.int .i32 r] 21)) = .ok v' w' ∧ Two w' base v' (xs ++ [r]) b ys ∧ Below base w w' ∧ w.heap.size ≤ w'.heap.size ∧ ∀ k, k < w.heap.size → a.ownBlock ≠ some k → w'.heap[k]? = w.heap[k]? := by
  have hba : Below w.heap.size w (w.alloc (.cells #[.int .i32 r] 21)) := (Below.refl _ _).alloc (Nat.le_refl _) _
  have h' := h.alloc (.cells #[.int .i32 r] 21)
  obtain ⟨v', w', hrun, h2, h3, h5⟩ := append_runs (w.alloc (.cells #[.int .i32 r] 21)) base a xs.length _ h'.1 _ [r] (runs_lit w r) (by simp; omega) (by simpa using hlen)
  refine ⟨v', w', hrun, ⟨by simpa using h2, h'.2.1.kept h3 h'.swap.2.2, ?_⟩, (hba.mono hbase).grown h3 (by simp; omega) (own_block h.1), Nat.le_trans hba.size h3.size, fun k hk hne => (h3.block k (by simp; omega) (fun e => hne e.symm)).trans (hba.block k hk)⟩
  rcases h5 with h5 | h5
  · rw [h5]; exact h.2.2
  · refine .inr ?_
    rw [h5]
    intro e
    have := own_lt h.2.1 _ e.symm
    simp at this
    omega

theorem stA_append (a b : List St) : stA (a ++ b) = stA a ++ stA b := by
  induction a with
  | nil => rfl
  | cons s a ih => simp only [List.cons_append, stA, ih]; split <;> rfl
theorem stB_append (a b : List St) : stB (a ++ b) = stB a ++ stB b := by
  induction a with
  | nil => rfl
  | cons s a ih => simp only [List.cons_append, stB, ih]; split <;> rfl
theorem stA_take (l : List St) (k : Nat) (hk : k < l.length) : stA (l.take (k + 1)) = stA (l.take k) ++ stA [l.getD k (0, 0, 0)] := by
  rw [List.take_add_one, stA_append]
  simp [List.getElem?_eq_getElem hk, List.getD_eq_getElem?_getD]
theorem stB_take (l : List St) (k : Nat) (hk : k < l.length) : stB (l.take (k + 1)) = stB (l.take k) ++ stB [l.getD k (0, 0, 0)] := by
  rw [List.take_add_one, stB_append]
  simp [List.getElem?_eq_getElem hk, List.getD_eq_getElem?_getD]
theorem stA_len (l : List St) : (stA l).length ≤ l.length := by
  induction l with
  | nil => simp [stA]
  | cons s l ih => simp only [stA]; split <;> simp <;> omega
theorem stB_len (l : List St) : (stB l).length ≤ l.length := by
  induction l with
  | nil => simp [stB]
  | cons s l ih => simp only [stB]; split <;> simp <;> omega

end Go.Proofs.YtbbkkoeipkigdaaDoor

/- The law AlignReads, walked over what align's functions answer. -/
namespace Go.Proofs.YtbbkkoeipkigdaaDoor
open Go.RowKit Go.Shelf

def stErr (l : List St) : Int := if l.all stGood then 0 else 7
def readA (l : List St) : List UInt8 := if l.all stGood then encS (stA l) else []
def readB (l : List St) : List UInt8 := if l.all stGood then encS (stB l) else []

end Go.Proofs.YtbbkkoeipkigdaaDoor

/- align.Read, Check: what steps are of, whether they may be. -/
namespace Go.Proofs.YtbbkkoeipkigdaaDoor
open Go.RowKit Go.Shelf

/-- A step has what its kind asks for. -/
def stForm (s : St) : Bool := decide (s.1 = 0 ∧ s.2.1 = s.2.2) || decide (s.1 = 1 ∧ s.2.1 ≠ s.2.2) || decide (s.1 = 2 ∧ s.2.2 = 0) || decide (s.1 = 3 ∧ s.2.1 = 0)

theorem good_all (l : List St) (h : l.all stForm = true) : l.all stGood = (allRunes (stA l) && allRunes (stB l)) := by
  induction l with
  | nil => rfl
  | cons s l ih =>
    rw [List.all_cons, Bool.and_eq_true] at h
    obtain ⟨k, a, b⟩ := s
    rw [List.all_cons, ih h.2]
    have hs := h.1
    unfold stForm at hs
    simp only [Bool.or_eq_true, decide_eq_true_eq] at hs
    have v0 : Lib.validRune 0 = true := by decide
    rcases hs with ((⟨rfl, rfl⟩ | ⟨rfl, h2⟩) | ⟨rfl, rfl⟩) | ⟨rfl, rfl⟩
    · simp only [stGood, stA, stB, allRunes]
      simp
      cases Lib.validRune a <;> simp
    · simp only [stGood, stA, stB, allRunes]
      simp [h2]
      cases Lib.validRune a <;> cases Lib.validRune b <;> simp
    · simp only [stGood, stA, stB, allRunes]
      simp [v0]
      cases Lib.validRune a <;> simp
    · simp only [stGood, stA, stB, allRunes]
      simp [v0]
      cases Lib.validRune b <;> simp
theorem good_formed (s : St) (h : stForm s = false) : stGood s = false := by
  unfold stForm at h
  unfold stGood
  rw [h, Bool.and_false]
theorem form_no (l : List St) (k : Nat) (h : k < l.length) (hf : stForm (l.getD k (0, 0, 0)) = false) : l.all stGood = false := by
  rw [List.all_eq_false]
  refine ⟨l[k], List.getElem_mem h, ?_⟩
  rw [List.getD_eq_getElem?_getD, List.getElem?_eq_getElem h] at hf
  have hf' : stForm l[k] = false := hf
  simp [good_formed _ hf']
theorem form_take (l : List St) (k : Nat) (h : k < l.length) : (l.take (k + 1)).all stForm = ((l.take k).all stForm && stForm (l.getD k (0, 0, 0))) := by
  rw [List.take_add_one, List.all_append]
  simp [List.getElem?_eq_getElem h, List.getD_eq_getElem?_getD]
/-- Numbers that fit. -/
def stFit (l : List St) : Prop := ∀ s ∈ l, (-2147483648 ≤ s.2.1 ∧ s.2.1 ≤ 2147483647) ∧ (-2147483648 ≤ s.2.2 ∧ s.2.2 ≤ 2147483647)
theorem fit_A (l : List St) (h : stFit l) : ∀ x ∈ stA l, -2147483648 ≤ x ∧ x ≤ 2147483647 := by
  induction l with
  | nil => intro x hx; simp [stA] at hx
  | cons s l ih =>
    have i := ih fun t ht => h t (by simp [ht])
    intro x hx
    simp only [stA] at hx
    split at hx
    · exact i x hx
    · rcases List.mem_cons.1 hx with rfl | hx
      · exact (h s (by simp)).1
      · exact i x hx
theorem fit_B (l : List St) (h : stFit l) : ∀ x ∈ stB l, -2147483648 ≤ x ∧ x ≤ 2147483647 := by
  induction l with
  | nil => intro x hx; simp [stB] at hx
  | cons s l ih =>
    have i := ih fun t ht => h t (by simp [ht])
    intro x hx
    simp only [stB] at hx
    split at hx
    · exact i x hx
    · rcases List.mem_cons.1 hx with rfl | hx
      · exact (h s (by simp)).2
      · exact i x hx
end Go.Proofs.YtbbkkoeipkigdaaDoor

/- align.Read, Check: what they answer at steps. -/
namespace Go.Proofs.YtbbkkoeipkigdaaDoor
open Go.RowKit Go.Shelf

end Go.Proofs.YtbbkkoeipkigdaaDoor

/- align.Cost: how many steps aren't matches. -/
namespace Go.Proofs.YtbbkkoeipkigdaaDoor
open Go.RowKit Go.Shelf

end Go.Proofs.YtbbkkoeipkigdaaDoor

/- align.Steps at any two texts; the examples of layer 4. -/
namespace Go.Proofs.YtbbkkoeipkigdaaDoor
open Go.RowKit Go.Shelf

theorem tokErr2_parts {s t : List UInt8} (h2 : tokErr2 s t = 0) : tokErr s = 0 ∧ tokErr t = 0 := by
  unfold tokErr2 at h2
  by_cases h1 : tokErr s = 0
  · rw [if_pos h1] at h2; exact ⟨h1, h2⟩
  · rw [if_neg h1] at h2; exact absurd h2 h1
theorem tokErr2_of {s t : List UInt8} (h1 : tokErr s = 0) (h2 : tokErr t = 0) : tokErr2 s t = 0 := by rw [tokErr2, if_pos h1, h2]

theorem ex_steps : stepsS [114, 110] [109] = [(2, 114, 0), (1, 110, 109)] ∧ tokErr2 [114, 110] [109] = 0 := by
  have e1 : tokErr [114, 110] = 0 := by decide +kernel
  have e2 : tokErr [109] = 0 := by decide +kernel
  have e3 : tokErr2 [114, 110] [109] = 0 := tokErr2_of e1 e2
  have r1 : tokRunes [114, 110] = [114, 110] := by decide +kernel
  have r2 : tokRunes [109] = [109] := by decide +kernel
  refine ⟨?_, e3⟩
  rw [stepsS, if_pos e3, r1, r2]
  have l1 : levR [110, 114] [109] = 2 := by simp [levR_cons, levR_nil, levR_nil']
  have l2 : levR [114] [] = 1 := by simp [levR_nil']
  show (pathR [110, 114] [109]).reverse = _
  rw [pathR_sub (by decide) (by rw [l1, l2]), pathR, pathR]
  rfl
theorem ex_dist : distS [97, 98] [98] = 1 ∧ tokErr2 [97, 98] [98] = 0 := by
  have e1 : tokErr [97, 98] = 0 := by decide +kernel
  have e2 : tokErr [98] = 0 := by decide +kernel
  have e3 : tokErr2 [97, 98] [98] = 0 := tokErr2_of e1 e2
  have r1 : tokRunes [97, 98] = [97, 98] := by decide +kernel
  have r2 : tokRunes [98] = [98] := by decide +kernel
  refine ⟨?_, e3⟩
  rw [distS, if_pos e3, r1, r2]
  show levR [98, 97] [98] = 1
  rw [levR_same, levR_nil']
  rfl

end Go.Proofs.YtbbkkoeipkigdaaDoor

/- The steps of two tokens, plain: what they are of, how many aren't matches; whatever steps are no fewer. -/
namespace Go.Proofs.YtbbkkoeipkigdaaDoor
open Go.RowKit Go.Shelf

theorem stA_rev (l : List St) : stA l.reverse = (stA l).reverse := by
  induction l with
  | nil => rfl
  | cons s l ih =>
    rw [List.reverse_cons, stA_append, ih]
    simp only [stA]
    split <;> simp
theorem stB_rev (l : List St) : stB l.reverse = (stB l).reverse := by
  induction l with
  | nil => rfl
  | cons s l ih =>
    rw [List.reverse_cons, stB_append, ih]
    simp only [stB]
    split <;> simp
theorem stC_rev (l : List St) : stC l.reverse = stC l := by
  induction l with
  | nil => rfl
  | cons s l ih =>
    rw [List.reverse_cons, stC_append, ih]
    simp only [stC]
    omega
theorem form_ok (s : St) (h : stOK s) : stForm s = true := by
  unfold stForm
  rcases h with h | h | h | h
  · simp [h.1, h.2]
  · simp [h.1, h.2]
  · simp [h.1, h.2]
  · simp [h.1, h.2]
theorem ok_form (s : St) (h : stForm s = true) : stOK s := by
  unfold stForm at h
  simp only [Bool.or_eq_true, decide_eq_true_eq] at h
  rcases h with ((h | h) | h) | h
  · exact .inl h
  · exact .inr (.inl h)
  · exact .inr (.inr (.inl h))
  · exact .inr (.inr (.inr h))
theorem good_fit (l : List St) (h : l.all stGood = true) : stFit l := by
  intro s hs
  have := List.all_eq_true.1 h s hs
  unfold stGood at this
  simp only [Bool.and_eq_true] at this
  have h1 := rune_bd this.1.1
  have h2 := rune_bd this.1.2
  exact ⟨by omega, by omega⟩
theorem good_ok (l : List St) (h : l.all stGood = true) : ∀ s ∈ l, stOK s := by
  intro s hs
  have := List.all_eq_true.1 h s hs
  unfold stGood at this
  rw [Bool.and_eq_true] at this
  exact ok_form s this.2

theorem tok_runes {s : List UInt8} (h : tokErr s = 0) : tokRunes s = items s ∧ Lib.validD s = true ∧ (∀ r ∈ tokRunes s, Lib.validRune r = true) ∧ encL (tokRunes s) = s := by
  have e : tokRunes s = items s := by rw [tokRunes, if_pos h]
  have hv : Lib.validD s = true := by
    cases hv : Lib.validD s with
    | true => rfl
    | false => rw [tokErr, hv] at h; cases h
  exact ⟨e, hv, by rw [e]; exact items_runes s hv, by rw [e]; exact enc_items s hv⟩
theorem allRunes_of {l : List Int} (h : ∀ r ∈ l, Lib.validRune r = true) : allRunes l = true := List.all_eq_true.2 h

/-- All of two tokens' steps. -/
theorem steps_facts (s t : List UInt8) (h : tokErr2 s t = 0) : readA (stepsS s t) = s ∧ readB (stepsS s t) = t ∧ stErr (stepsS s t) = 0 ∧ stC (stepsS s t) = distS s t ∧ stFit (stepsS s t) ∧ (stepsS s t).length ≤ 128 ∧ 0 < (stepsS s t).length := by
  obtain ⟨h1, h2⟩ := tokErr2_parts h
  obtain ⟨_, _, r1, e1⟩ := tok_runes h1
  obtain ⟨_, _, r2, e2⟩ := tok_runes h2
  have p := pathR_all (tokRunes s).reverse (tokRunes t).reverse
  have hs : stepsS s t = (pathR (tokRunes s).reverse (tokRunes t).reverse).reverse := by rw [stepsS, if_pos h]
  have hd : distS s t = levR (tokRunes s).reverse (tokRunes t).reverse := by rw [distS, if_pos h]
  have a1 : stA (stepsS s t) = tokRunes s := by rw [hs, stA_rev, p.1, List.reverse_reverse]
  have a2 : stB (stepsS s t) = tokRunes t := by rw [hs, stB_rev, p.2.1, List.reverse_reverse]
  have a3 : stC (stepsS s t) = distS s t := by rw [hs, stC_rev, p.2.2.1, hd]
  have hf : (stepsS s t).all stForm = true := List.all_eq_true.2 (fun q hq => form_ok q (p.2.2.2 q (by rw [hs] at hq; exact List.mem_reverse.1 hq)))
  have hg : (stepsS s t).all stGood = true := by rw [good_all _ hf, a1, a2, allRunes_of r1, allRunes_of r2]; rfl
  have hl := pathR_length (tokRunes s).reverse (tokRunes t).reverse
  have l1 := tok_len h1
  have l2 := tok_len h2
  rw [List.length_reverse, List.length_reverse] at hl
  refine ⟨?_, ?_, ?_, a3, good_fit _ hg, ?_, ?_⟩
  · rw [readA, if_pos hg, a1, encS, if_pos (allRunes_of r1), e1]
  · rw [readB, if_pos hg, a2, encS, if_pos (allRunes_of r2), e2]
  · rw [stErr, if_pos hg]
  · rw [hs, List.length_reverse]; omega
  · have hb := stA_len (stepsS s t)
    rw [a1] at hb
    omega

/-- No steps of two tokens are fewer than these are apart. -/
theorem steps_least (l : List St) (h : l.all stGood = true) (h2 : tokErr2 (readA l) (readB l) = 0) : distS (readA l) (readB l) ≤ stC l := by
  obtain ⟨h1, h3⟩ := tokErr2_parts h2
  have hok := good_ok l h
  have hf : l.all stForm = true := List.all_eq_true.2 (fun q hq => form_ok q (hok q hq))
  have hg := good_all l hf
  rw [h] at hg
  have hg' : allRunes (stA l) = true ∧ allRunes (stB l) = true := by simpa using hg.symm
  have ea : readA l = encL (stA l) := by rw [readA, if_pos h, encS, if_pos hg'.1]
  have eb : readB l = encL (stB l) := by rw [readB, if_pos h, encS, if_pos hg'.2]
  have ia := items_of_enc (stA l) (List.all_eq_true.1 hg'.1)
  have ib := items_of_enc (stB l) (List.all_eq_true.1 hg'.2)
  have ta : tokRunes (readA l) = stA l := by rw [(tok_runes h1).1, ea, ia.1]
  have tb : tokRunes (readB l) = stB l := by rw [(tok_runes h3).1, eb, ib.1]
  rw [distS, if_pos h2, ta, tb, ← stA_rev, ← stB_rev, ← stC_rev]
  exact stC_ge l.reverse (fun s hs => hok s (List.mem_reverse.1 hs))
theorem encL_size (l : List Int) : (encL l).length ≤ l.length * 4 := by
  induction l with
  | nil => simp [encL]
  | cons r l ih =>
    rw [encL_cons, List.length_append, List.length_cons]
    have := (encodeRune_len r).2
    omega
theorem read_size (l : List St) : (readA l).length ≤ l.length * 4 ∧ (readB l).length ≤ l.length * 4 := by
  have h1 := encL_size (stA l)
  have h2 := encL_size (stB l)
  have h3 := stA_len l
  have h4 := stB_len l
  constructor
  · unfold readA encS
    split
    · split
      · omega
      · simp
    · simp
  · unfold readB encS
    split
    · split
      · omega
      · simp
    · simp
end Go.Proofs.YtbbkkoeipkigdaaDoor

/- Blocks of steps, plain: what they are, that each may be, how many there are. -/
namespace Go.Proofs.YtbbkkoeipkigdaaDoor
open Go.RowKit Go.Shelf

/-- A block: what was read, what it should have been, how often. -/
abbrev Blk := ByteArray × ByteArray × Int
def mkB (l : List UInt8) : ByteArray := ⟨l.toArray⟩
theorem mkB_data (l : List UInt8) : (mkB l).data.toList = l := by simp [mkB]
def blkOf (r : List St) : Blk := (mkB (readA r), mkB (readB r), 1)
def longB (r : List St) : Bool := decide (3 < (stA r).length ∨ 3 < (stB r).length)
def diffB (r : List St) : Bool := decide (stA r ≠ stB r)
/-- The blocks of steps, and how many are too long. -/
def ofS (l : List St) : List Blk := if l.all stGood then ((rowsP l).filter (fun r => !longB r && diffB r)).map blkOf else []
def longS (l : List St) : Nat := if l.all stGood then ((rowsP l).filter longB).length else 0
/-- Whether a block may be. -/
def chkS (b : Blk) : Int :=
  if Lib.validD b.1.data.toList && Lib.validD b.2.1.data.toList then
    if 3 < (items b.1.data.toList).length ∨ 3 < (items b.2.1.data.toList).length then 5 else if b.1 = b.2.1 then 7 else if b.2.2 < 1 ∨ 1073741824 < b.2.2 then 2 else 0
  else 3

theorem rows_good {l : List St} (h : l.all stGood = true) : ∀ r ∈ rowsP l, r.all stGood = true := by
  intro r hr
  obtain ⟨_, _, X, Y, e⟩ := rowsP_each l r hr
  rw [e, List.all_append, List.all_append, Bool.and_eq_true, Bool.and_eq_true] at h
  exact h.1.2
/-- A good row's two texts. -/
theorem row_texts {r : List St} (h : r.all stGood = true) : readA r = encL (stA r) ∧ readB r = encL (stB r) ∧ items (readA r) = stA r ∧ items (readB r) = stB r ∧ Lib.validD (readA r) = true ∧ Lib.validD (readB r) = true := by
  have hok := good_ok r h
  have hf : r.all stForm = true := List.all_eq_true.2 (fun q hq => form_ok q (hok q hq))
  have hg := good_all r hf
  rw [h] at hg
  have hg' : allRunes (stA r) = true ∧ allRunes (stB r) = true := by simpa using hg.symm
  have ea : readA r = encL (stA r) := by rw [readA, if_pos h, encS, if_pos hg'.1]
  have eb : readB r = encL (stB r) := by rw [readB, if_pos h, encS, if_pos hg'.2]
  have ia := items_of_enc (stA r) (List.all_eq_true.1 hg'.1)
  have ib := items_of_enc (stB r) (List.all_eq_true.1 hg'.2)
  exact ⟨ea, eb, by rw [ea]; exact ia.1, by rw [eb]; exact ib.1, by rw [ea]; exact ia.2, by rw [eb]; exact ib.2⟩
theorem row_differ {r : List St} (h : r.all stGood = true) : (readA r = readB r) ↔ (stA r = stB r) := by
  obtain ⟨ea, eb, ia, ib, _, _⟩ := row_texts h
  constructor
  · intro e
    rw [← ia, ← ib, e]
  · intro e
    rw [ea, eb, e]
/-- Each block may be, once. -/
theorem ofS_may {l : List St} : ∀ b ∈ ofS l, chkS b = 0 ∧ b.2.2 = 1 ∧ ∃ r ∈ rowsP l, b = blkOf r ∧ (items b.1.data.toList).length = (stA r).length ∧ (items b.2.1.data.toList).length = (stB r).length ∧ Lib.validD b.1.data.toList = true ∧ Lib.validD b.2.1.data.toList = true := by
  intro b hb
  unfold ofS at hb
  split at hb
  · rename_i hg
    obtain ⟨r, hr, rfl⟩ := List.mem_map.1 hb
    obtain ⟨hr1, hr2⟩ := List.mem_filter.1 hr
    rw [Bool.and_eq_true] at hr2
    have hg' := rows_good hg r hr1
    obtain ⟨ea, eb, ia, ib, va, vb⟩ := row_texts hg'
    have hd : stA r ≠ stB r := of_decide_eq_true hr2.2
    have hl : ¬ (3 < (stA r).length ∨ 3 < (stB r).length) := by
      have := hr2.1
      unfold longB at this
      simpa using this
    refine ⟨?_, rfl, r, hr1, rfl, ?_, ?_, ?_, ?_⟩
    · unfold chkS blkOf
      simp only [mkB_data, va, vb, ia, ib, Bool.and_self, if_true]
      rw [if_neg hl]
      have hne : mkB (readA r) ≠ mkB (readB r) := fun e => hd ((row_differ hg').1 (by rw [← mkB_data (readA r), e, mkB_data]))
      rw [if_neg hne, if_neg (by omega)]
    · show (items (mkB (readA r)).data.toList).length = _
      rw [mkB_data, ia]
    · show (items (mkB (readB r)).data.toList).length = _
      rw [mkB_data, ib]
    · show Lib.validD (mkB (readA r)).data.toList = true
      rw [mkB_data]; exact va
    · show Lib.validD (mkB (readB r)).data.toList = true
      rw [mkB_data]; exact vb
  · simp at hb

theorem sum_filter_le {α : Type} (f : α → Nat) (p : α → Bool) (l : List α) : ((l.filter p).map f).sum ≤ (l.map f).sum := by
  induction l with
  | nil => simp
  | cons a l ih =>
    rw [List.filter_cons]
    split
    · simp only [List.map_cons, List.sum_cons]; omega
    · simp only [List.map_cons, List.sum_cons]; omega
theorem sum_map_le {α : Type} (f g : α → Nat) (l : List α) (h : ∀ a ∈ l, f a ≤ g a) : (l.map f).sum ≤ (l.map g).sum := by
  induction l with
  | nil => simp
  | cons a l ih =>
    have h1 := h a (by simp)
    have h2 := ih (fun b hb => h b (by simp [hb]))
    simp only [List.map_cons, List.sum_cons]; omega
theorem len_two_filters {α : Type} (p q : α → Bool) (l : List α) (h : ∀ a, p a = true → q a = true → False) : (l.filter p).length + (l.filter q).length ≤ l.length := by
  induction l with
  | nil => simp
  | cons a l ih =>
    rw [List.filter_cons, List.filter_cons]
    cases hp : p a <;> cases hq : q a
    · simp; omega
    · simp; omega
    · simp; omega
    · exact absurd hq (fun hq => h a hp hq)
/-- The runes of all blocks: no more than aren't matches. -/
theorem ofS_runes (l : List St) : ((ofS l).map (fun b => max (items b.1.data.toList).length (items b.2.1.data.toList).length)).sum ≤ stC l := by
  unfold ofS
  split
  · rename_i hg
    rw [List.map_map, ← rowsP_sum l]
    refine Nat.le_trans (sum_map_le _ List.length _ (fun r hr => ?_)) (sum_filter_le _ _ _)
    obtain ⟨hr1, _⟩ := List.mem_filter.1 hr
    obtain ⟨_, _, ia, ib, _, _⟩ := row_texts (rows_good hg r hr1)
    show max (items (mkB (readA r)).data.toList).length (items (mkB (readB r)).data.toList).length ≤ r.length
    rw [mkB_data, mkB_data, ia, ib]
    have := stA_len r
    have := stB_len r
    omega
  · simp
theorem rows_le_C (l : List St) : (rowsP l).length ≤ stC l := by
  rw [← rowsP_sum l]
  have : ((rowsP l).map (fun _ => 1)).sum ≤ ((rowsP l).map List.length).sum := sum_map_le _ _ _ (fun r hr => by
    have := (rowsP_each l r hr).1
    have := List.length_pos_iff.2 this
    omega)
  have h1 : ∀ z : List (List St), (z.map (fun _ => 1)).sum = z.length := fun z => by
    induction z with
    | nil => rfl
    | cons a z ih => simp only [List.map_cons, List.sum_cons, List.length_cons, ih]; omega
  rwa [h1] at this
theorem ofS_count (l : List St) : (ofS l).length + longS l ≤ stC l := by
  unfold ofS longS
  split
  · rw [List.length_map]
    refine Nat.le_trans (len_two_filters _ _ _ (fun r h1 h2 => ?_)) (rows_le_C l)
    rw [h2] at h1
    simp at h1
  · simp
theorem stC_zero_rows {l : List St} (h : rowsP l = []) : stC l = 0 := by rw [← rowsP_sum, h]; rfl

/-- In an alignment of as few as there may be no row is of two texts that are the same. -/
theorem least_differ (l : List St) (hok : ∀ s ∈ l, stOK s) (hc : stC l ≤ levR (stA l) (stB l)) : ∀ r ∈ rowsP l, stA r ≠ stB r := by
  intro r hr e
  obtain ⟨hne, hrun, X, Y, hl⟩ := rowsP_each l r hr
  have hL : ∀ s ∈ X ++ (stA r).map (fun a => ((0, a, a) : St)) ++ Y, stOK s := by
    intro s hs
    rcases List.mem_append.1 hs with hs | hs
    · rcases List.mem_append.1 hs with hs | hs
      · exact hok s (by rw [hl]; simp [hs])
      · obtain ⟨a, _, rfl⟩ := List.mem_map.1 hs
        exact .inl ⟨rfl, rfl⟩
    · exact hok s (by rw [hl]; simp [hs])
  have hmA : ∀ z : List Int, stA (z.map (fun a => ((0, a, a) : St))) = z := by
    intro z; induction z with
    | nil => rfl
    | cons a z ih => simp [stA] at ih ⊢; exact ih
  have hmB : ∀ z : List Int, stB (z.map (fun a => ((0, a, a) : St))) = z := by
    intro z; induction z with
    | nil => rfl
    | cons a z ih => simp [stB] at ih ⊢; exact ih
  have hmC : ∀ z : List Int, stC (z.map (fun a => ((0, a, a) : St))) = 0 := by
    intro z; induction z with
    | nil => rfl
    | cons a z ih => simp [stC] at ih ⊢; exact ih
  have hge := stC_ge _ hL
  rw [stA_append, stA_append, stB_append, stB_append, hmA, hmB, stC_append, stC_append, hmC] at hge
  rw [hl, stA_append, stA_append, stB_append, stB_append, stC_append, stC_append] at hc
  rw [e] at hge hc
  have hr2 := stC_run r hrun
  have := List.length_pos_iff.2 hne
  omega

theorem levR_rev_le (x y : List Int) : levR x y ≤ levR x.reverse y.reverse := by
  have p := pathR_all x.reverse y.reverse
  have h := stC_ge (pathR x.reverse y.reverse).reverse (fun s hs => p.2.2.2 s (List.mem_reverse.1 hs))
  rwa [stA_rev, stB_rev, stC_rev, p.1, p.2.1, p.2.2.1, List.reverse_reverse, List.reverse_reverse] at h
theorem levR_rev (x y : List Int) : levR x.reverse y.reverse = levR x y := by
  have h1 := levR_rev_le x y
  have h2 := levR_rev_le x.reverse y.reverse
  rw [List.reverse_reverse, List.reverse_reverse] at h2
  omega

/-- All of two tokens' blocks. -/
theorem pair_facts (s t : List UInt8) (h : tokErr2 s t = 0) : (stepsS s t).all stGood = true ∧ ((ofS (stepsS s t)).length = 0 → longS (stepsS s t) = 0 → stC (stepsS s t) = 0) ∧ (s = t → ofS (stepsS s t) = []) := by
  obtain ⟨f1, f2, f3, f4, _, _, _⟩ := steps_facts s t h
  have hg : (stepsS s t).all stGood = true := by
    cases hg : (stepsS s t).all stGood with
    | true => rfl
    | false => rw [stErr, hg] at f3; cases f3
  refine ⟨hg, fun h1 h2 => ?_, fun e => ?_⟩
  · have hL : (ofS (stepsS s t)) = [] := List.eq_nil_of_length_eq_zero h1
    by_cases hr : rowsP (stepsS s t) = []
    · exact stC_zero_rows hr
    · exfalso
      obtain ⟨r, hr⟩ := List.exists_mem_of_ne_nil _ hr
      have p := pathR_all (tokRunes s).reverse (tokRunes t).reverse
      have hs : stepsS s t = (pathR (tokRunes s).reverse (tokRunes t).reverse).reverse := by rw [stepsS, if_pos h]
      have hd := least_differ (stepsS s t) (good_ok _ hg) (by
        have a1 : stA (stepsS s t) = tokRunes s := by rw [hs, stA_rev, p.1, List.reverse_reverse]
        have a2 : stB (stepsS s t) = tokRunes t := by rw [hs, stB_rev, p.2.1, List.reverse_reverse]
        rw [f4, a1, a2, distS, if_pos h]
        exact Nat.le_of_eq (levR_rev _ _)) r hr
      unfold ofS at hL
      rw [if_pos hg, List.map_eq_nil_iff, List.filter_eq_nil_iff] at hL
      unfold longS at h2
      rw [if_pos hg] at h2
      have h3 := List.filter_eq_nil_iff.1 (List.eq_nil_of_length_eq_zero h2) r hr
      have h4 := hL r hr
      have h5 : diffB r = true := decide_eq_true hd
      have h6 : longB r = false := by simpa using h3
      rw [h5, h6] at h4
      exact h4 rfl
  · subst e
    have h0 : stC (stepsS s s) = 0 := by rw [f4, distS, if_pos h, levR_self]
    have := ofS_count (stepsS s s)
    exact List.eq_nil_of_length_eq_zero (by omega)
/-- Two rows of steps, a match between. -/
theorem ofS_parts (l r : List St) (m : St) (hm : m.1 = 0) (hmg : stGood m = true) (hl : l.all stGood = true) (hr : r.all stGood = true) : ofS (l ++ m :: r) = ofS l ++ ofS r := by
  have h : (l ++ m :: r).all stGood = true := by rw [List.all_append, List.all_cons, hl, hmg, hr]; rfl
  rw [ofS, if_pos h, ofS, if_pos hl, ofS, if_pos hr, rowsP_parts l r m hm, List.filter_append, List.map_append]
end Go.Proofs.YtbbkkoeipkigdaaDoor

/- errataref05.Size, Check, Less: what each answers. -/
namespace Go.Proofs.YtbbkkoeipkigdaaDoor
open Go.RowKit Go.Shelf

/-- A block as a value, and its cells. -/
def blkV (b : Blk) : Value := .agg #[.string b.1, .string b.2.1, .int .i64 b.2.2]
def blkCell (b : Blk) : List Value := [.string b.1, .string b.2.1, .int .i64 b.2.2]

set_option maxRecDepth 100000 in
set_option maxHeartbeats 4000000 in
theorem refCheck5_any (a b : ByteArray) (N : Int) (w : World) (ha : a.size * 4 ≤ 140737488355328) (hb : b.size * 4 ≤ 140737488355328) :
    Calls Tryd.prog 92 #[.agg #[.string a, .string b, .int .i64 N]] w fun e w' => e = .returned (.int .i64 (chkS (a, b, N))) ∧ Below w.heap.size w w' := by
  obtain ⟨res, hres⟩ : ∃ r, chkS (a, b, N) = r := ⟨_, rfl⟩
  rw [hres]
  have c1 := refDecode_runs a (w.alloc (.cells #[.string a, .string b, .int .i64 N] 121)) ha
  have c2 := fun w => refDecode_runs b w hb
  unfold chkS at hres
  simp only at hres
  have hal : Below w.heap.size w (w.alloc (.cells #[.string a, .string b, .int .i64 N] 121)) := (Below.refl _ _).alloc (Nat.le_refl _) _
  have HAL := Lib.hid hal; clear hal
  have key : ∀ (n m : Nat) (ea eb : Int), (decRunes a.data.toList).length = n → (decRunes b.data.toList).length = m → decErr a.data.toList = ea → decErr b.data.toList = eb →
      ((ea != 0) = true ∧ res = 3) ∨ ((ea != 0) = false ∧ (eb != 0) = true ∧ res = 3) ∨ ((ea != 0) = false ∧ (eb != 0) = false ∧ ((3 < n ∧ res = 5) ∨ (¬ 3 < n ∧ 3 < m ∧ res = 5) ∨ (¬ 3 < n ∧ ¬ 3 < m ∧ ((a = b ∧ res = 7) ∨ (a ≠ b ∧ ((N < 1 ∧ res = 2) ∨ (¬ N < 1 ∧ 1073741824 < N ∧ res = 2) ∨ (¬ N < 1 ∧ ¬ 1073741824 < N ∧ res = 0))))))) := by
    intro n m ea eb hn hm hea heb
    unfold decErr at hea heb
    unfold decRunes at hn hm
    cases va : Lib.validD a.data.toList with
    | false =>
      rw [va] at hea hres
      left
      exact ⟨by rw [← hea]; rfl, by rw [← hres]; rfl⟩
    | true =>
      rw [va] at hea hn hres
      have hea0 : ea = 0 := hea.symm
      cases vb : Lib.validD b.data.toList with
      | false =>
        rw [vb] at heb hres
        right; left
        exact ⟨by rw [hea0]; rfl, by rw [← heb]; rfl, by rw [← hres]; rfl⟩
      | true =>
        rw [vb] at heb hm hres
        have heb0 : eb = 0 := heb.symm
        right; right
        refine ⟨by rw [hea0]; rfl, by rw [heb0]; rfl, ?_⟩
        simp only [Bool.and_self, if_true] at hres hn hm
        rw [hn, hm] at hres
        by_cases h1 : 3 < n
        · left; exact ⟨h1, by rw [← hres, if_pos (.inl h1)]⟩
        · right
          by_cases h2 : 3 < m
          · left; exact ⟨h1, h2, by rw [← hres, if_pos (.inr h2)]⟩
          · right
            rw [if_neg (by omega)] at hres
            refine ⟨h1, h2, ?_⟩
            by_cases h3 : a = b
            · left; exact ⟨h3, by rw [← hres, if_pos h3]⟩
            · right
              rw [if_neg h3] at hres
              refine ⟨h3, ?_⟩
              by_cases h4 : N < 1
              · left; exact ⟨h4, by rw [← hres, if_pos (.inl h4)]⟩
              · right
                by_cases h5 : 1073741824 < N
                · left; exact ⟨h4, h5, by rw [← hres, if_pos (.inr h5)]⟩
                · right; exact ⟨h4, h5, by rw [← hres, if_neg (by omega)]⟩
  obtain ⟨n, hn⟩ : ∃ n, (decRunes a.data.toList).length = n := ⟨_, rfl⟩
  obtain ⟨m, hm⟩ : ∃ n, (decRunes b.data.toList).length = n := ⟨_, rfl⟩
  obtain ⟨ea, hea⟩ : ∃ n, decErr a.data.toList = n := ⟨_, rfl⟩
  obtain ⟨eb, heb⟩ : ∃ n, decErr b.data.toList = n := ⟨_, rfl⟩
  have hcs := key n m ea eb hn hm hea heb
  simp only [hn, hea] at c1
  simp only [hm, heb] at c2
  clear key hres hn hm hea heb
  have C1 := Lib.hid c1; have C2 := Lib.hid c2
  clear c1 c2
  have fin : ∀ w1 w2 : World, Below (w.alloc (.cells #[.string a, .string b, .int .i64 N] 121)).heap.size (w.alloc (.cells #[.string a, .string b, .int .i64 N] 121)) w1 → Below w1.heap.size w1 w2 →
      w1.cell? ⟨w.heap.size, 1, none⟩ = some (.string b) ∧ w2.cell? ⟨w.heap.size, 0, none⟩ = some (.string a) ∧ w2.cell? ⟨w.heap.size, 1, none⟩ = some (.string b) ∧ w2.cell? ⟨w.heap.size, 2, none⟩ = some (.int .i64 N) ∧ Below w.heap.size w w2 := fun w1 w2 h1 h2 => by
    have h12 := h1.trans (h2.mono h1.size)
    exact ⟨(h1.cell (p := ⟨w.heap.size, 1, none⟩) (by simp)).trans (by simp), (h12.cell (p := ⟨w.heap.size, 0, none⟩) (by simp)).trans (by simp), (h12.cell (p := ⟨w.heap.size, 1, none⟩) (by simp)).trans (by simp), (h12.cell (p := ⟨w.heap.size, 2, none⟩) (by simp)).trans (by simp), HAL.out.trans (h12.mono HAL.out.size)⟩
  have FIN := Lib.hid fin; clear fin
  rcases hcs with ⟨z1, rfl⟩ | ⟨z1, z2, rfl⟩ | ⟨z1, z2, ⟨h1, rfl⟩ | ⟨h1, h2, rfl⟩ | ⟨h1, h2, ⟨rfl, rfl⟩ | ⟨h3, ⟨h4, rfl⟩ | ⟨h4, h5, rfl⟩ | ⟨h4, h5, rfl⟩⟩⟩⟩
  all_goals
    try have i1 : (3 : Int) < (n : Int) := by omega
    try have i1 : ¬ (3 : Int) < (n : Int) := by omega
    try have i2 : (3 : Int) < (m : Int) := by omega
    try have i2 : ¬ (3 : Int) < (m : Int) := by omega
    try have s1 : (a.toList == b.toList) = false := beq_eq_false_iff_ne.2 (fun e => h3 (by cases a; cases b; congr 1; exact Array.toList_inj.1 (by simpa [Lib.toList_data] using e)))
    go_enter Tryd.func92, Tryd.ntmps92
    go_wp2_with fail
    refine C1.out.mono ?_
    rintro e w1 ⟨A1, c1, rfl, r1, b1⟩
    obtain ⟨p1, _, _, _, _⟩ := FIN.out w1 w1 b1 (Below.refl _ _)
    have B1 := Lib.hid b1; clear b1 r1
    go_wp2_with fail
    refine (C2.out _).mono ?_
    rintro e w2 ⟨A2, c2, rfl, r2, b2⟩
    obtain ⟨_, q0, q1, q2, bb⟩ := FIN.out w1 w2 B1.out b2
    have BB := Lib.hid bb
    clear b2 r2 bb p1
    go_wp2
    go_ret
    exact ⟨rfl, BB.out⟩
end Go.Proofs.YtbbkkoeipkigdaaDoor

