/- Texts that several proofs of this seat share, one behind the other: GLay GLay2. -/
import Derived.Test.YtnognphjndpgkaaGreatDoorPk2
import Derived.Test.YtnognphjndpgkaaGreatDoorPk3
import Derived.Deep.RegionLaw
import Derived.Deep.RegionHeld3
/- The table of two tokens, as align.lay makes it, row by row. -/
namespace Go.Proofs.YtnognphjndpgkaaGreatDoor
open Go.RowKit Go.Shelf

theorem own_cell' {w : World} {base : Nat} {e : TypeId} {size g cap n : Nat} {xs : List Value} (h : w.ownsRow base e size (.slice (some ⟨g, 0, none⟩) n cap) n xs) (j : Nat) (hj : j < n * size) (u : Value) (hu : xs[j]? = some u) : w.cell? ⟨g, j, none⟩ = some u := by
  rcases h.2 with ⟨h0, _⟩ | ⟨g', cap', cur, e1, hb, hg, h1, h2, h3, h4⟩
  · cases h0
  · simp only [Value.slice.injEq, Option.some.injEq, Addr.mk.injEq] at e1
    obtain ⟨⟨rfl, _⟩, _, rfl⟩ := e1
    rw [cell_of_row w g j cur e (0, 0) hg]
    rw [← h4, List.getElem?_take, if_pos hj] at hu
    simpa using hu
/-- A row of another kind is another block. -/
theorem own_ne {w : World} {base : Nat} {e e' : TypeId} {size n g : Nat} {v : Value} {xs : List Value} {cs : Array Value} (h : w.ownsRow base e size v n xs) (hg : w.heap[g]? = some (.cells cs e')) (hne : e ≠ e') : v.ownBlock ≠ some g := by
  rcases h.2 with ⟨rfl, _⟩ | ⟨g', cap', cur, rfl, hb, hg', h1, h2, h3, h4⟩
  · simp [Value.ownBlock]
  · intro e1
    obtain rfl : g' = g := by simpa [Value.ownBlock] using e1
    rw [hg] at hg'
    simp only [Option.some.injEq, Obj.cells.injEq] at hg'
    exact hne hg'.2.1.symm
theorem grown_of_below {a b : World} (hb : Below a.heap.size a b) (row : Option Nat) : a.grownBy b row := ⟨hb.os, hb.tape, hb.output, hb.size, fun k hk _ => hb.block k hk⟩
theorem grown_setCell (w : World) (g j : Nat) (u : Value) : w.grownBy (w.setCell ⟨g, j, none⟩ u) (some g) :=
  ⟨rfl, rfl, rfl, by simp [World.setCell], fun k _ hne => Below.heap_setCell _ _ _ k (fun e => hne (by rw [e]))⟩

/-- append(v, z) to a row of slices of the call's own. -/
theorem append_row (w : World) (base : Nat) (v : Value) (n : Nat) (xs : List Value) (hown : w.ownsRow base 102 1 v n xs) (z : Value) (hz : z.oneCell' = true) (hbase : base ≤ w.heap.size) (hlen : (n + 1) * 24 ≤ 140737488355328) :
    ∃ v' w', (Builtin.append_ #[81, 81] 81 #[v, .slice (some ⟨w.heap.size, 0, none⟩) 1 1]).run Tryz.prog (w.alloc (.cells #[z] 102)) = .ok v' w' ∧ w'.ownsRow base 102 1 v' (n + 1) (xs ++ [z]) ∧
      (w.alloc (.cells #[z] 102)).grownBy w' v.ownBlock ∧ (v'.ownBlock = v.ownBlock ∨ v'.ownBlock = some (w.heap.size + 1)) := by
  obtain ⟨i0, hi, hz0, hz1, hz2⟩ := info_parts infoS
  obtain ⟨v', w', hrun, h2, h3, _, h5⟩ := run_append_own_at (P := Tryz.prog) (w.alloc (.cells #[z] 102)) base 81 81 102 i0 _ 1 24 Tryz.underlying81 hi hz0 hz1 hz2 rfl (by decide) v n xs (hown.alloc _) ⟨w.heap.size, 0, none⟩ 1 1 [z] (by simp)
    (cell_one_new _ _ _) (by simpa using hz) (by unfold maxLen; omega) hlen (by simp; omega)
  exact ⟨v', w', hrun, h2, h3, by simpa using h5⟩

/-- The box of a table. -/
def TBox (w : World) (Bt : Nat) (u v d : Value) : Prop := w.heap[Bt]? = some (.cells #[u, v, d] 83)
theorem TBox.cell {w : World} {Bt : Nat} {u v d : Value} (h : TBox w Bt u v d) : w.cell? ⟨Bt, 0, none⟩ = some u ∧ w.cell? ⟨Bt, 1, none⟩ = some v ∧ w.cell? ⟨Bt, 2, none⟩ = some d := by
  refine ⟨?_, ?_, ?_⟩ <;> rw [cell_of_row w Bt _ _ _ (0, 0) h] <;> rfl
theorem TBox.lt {w : World} {Bt : Nat} {u v d : Value} (h : TBox w Bt u v d) : Bt < w.heap.size := (Array.getElem?_eq_some_iff.1 h).1
theorem TBox.frozen {w : World} {Bt : Nat} {u v d : Value} (h : TBox w Bt u v d) (j : Nat) : w.frozen? ⟨Bt, j, none⟩ = false := by
  have h' : w.heap[Bt]? = some (.cells #[u, v, d] 83 (0, 0)) := h
  simp [World.frozen?, h']
theorem TBox.set {w : World} {Bt : Nat} {u v d : Value} (h : TBox w Bt u v d) (d' : Value) : TBox (w.setCell ⟨Bt, 2, none⟩ d') Bt u v d' := by
  have h' : w.heap[Bt]? = some (.cells #[u, v, d] 83 (0, 0)) := h
  show _ = some (Obj.cells #[u, v, d'] _)
  rw [setCell_eq_setRow w Bt 2 #[u, v, d] _ (0, 0) _ h']
  exact setRow_heap w Bt _ _ _ (0, 0) h'
theorem TBox.kept {w w' : World} {Bt : Nat} {u v d : Value} {row : Option Nat} (h : TBox w Bt u v d) (hg : w.grownBy w' row) (hne : some Bt ≠ row) : TBox w' Bt u v d := (hg.block Bt h.lt hne).trans h

def rowsV (M : Nat) (gs : List Nat) : List Value := gs.map fun b => Value.slice (some ⟨b, 0, none⟩) M M
/-- A table of which i rows are laid. -/
structure LaidT (w : World) (Z Bt : Nat) (u v d : Value) (x y : List Int) (M i : Nat) (gs : List Nat) : Prop where
  box : TBox w Bt u v d
  row : w.ownsRow Z 102 1 d i (rowsV M gs)
  len : gs.length = i
  rows : ∀ k b, gs[k]? = some b → Bt < b ∧ RowN w b (rowL x y M k)

theorem LaidT.drew {w : World} {Z Bt : Nat} {u v d : Value} {x y : List Int} {M i : Nat} {gs : List Nat} (h : LaidT w Z Bt u v d x y M i gs) : LaidT w.drew Z Bt u v d x y M i gs := ⟨h.box, h.row, h.len, h.rows⟩

/-- Behind 't.least = append(t.least, make(..))'. -/
theorem LaidT.grow {w : World} {Z Bt : Nat} {u v d : Value} {x y : List Int} {M i : Nat} {gs : List Nat} (h : LaidT w Z Bt u v d x y M i gs) (hZ : Z ≤ w.heap.size) (hBZ : Bt < Z) (hi : i ≤ 100) :
    ∃ d' w', (Builtin.append_ #[81, 81] 81 #[d, .slice (some ⟨w.heap.size + 1, 0, none⟩) 1 1]).run Tryz.prog ((w.alloc (.cells (cellsN (List.replicate M 0)) 3)).alloc (.cells #[.slice (some ⟨w.heap.size, 0, none⟩) M M] 102)) = .ok d' w' ∧
      w'.cell? ⟨Bt, 2, none⟩ = some d ∧ w'.frozen? ⟨Bt, 2, none⟩ = false ∧ Below Z w w' ∧ w.heap.size < w'.heap.size ∧
      ∀ W, W = w'.setCell ⟨Bt, 2, none⟩ d' → TBox W Bt u v d' ∧ W.ownsRow Z 102 1 d' (i + 1) (rowsV M (gs ++ [w.heap.size])) ∧ (∀ k b, gs[k]? = some b → Bt < b ∧ b < w.heap.size ∧ RowN W b (rowL x y M k)) ∧ RowN W w.heap.size (List.replicate M 0) ∧ d'.ownBlock ≠ some w.heap.size ∧ w.heap.size < W.heap.size ∧ Below Bt w W := by
  obtain ⟨hb, hr, hl, hrs⟩ := h
  have ha : Below w.heap.size w (w.alloc (.cells (cellsN (List.replicate M 0)) 3)) := (Below.refl _ _).alloc (Nat.le_refl _) _
  obtain ⟨d', w', hrun, hown, hg, hob⟩ := append_row (w.alloc (.cells (cellsN (List.replicate M 0)) 3)) Z d i _ (hr.alloc _) (.slice (some ⟨w.heap.size, 0, none⟩) M M) rfl (by simp; omega) (by omega)
  simp only [World.size_alloc] at hrun hob
  have hg2 : (w.alloc (.cells (cellsN (List.replicate M 0)) 3)).grownBy w' d.ownBlock := (World.grownBy_alloc _ _ _).trans hg
  have hg1 : w.grownBy w' d.ownBlock := (World.grownBy_alloc _ _ _).trans hg2
  have hnB : some Bt ≠ d.ownBlock := fun e => own_ne hr hb (by decide) e.symm
  have hBx : TBox w' Bt u v d := hb.kept hg1 hnB
  have hne : d.ownBlock ≠ some w.heap.size := fun e => by
    have := own_ne (hr.alloc (.cells (cellsN (List.replicate M 0)) 3)) (g := w.heap.size) (heap_alloc_new w _) (by decide)
    exact this e
  have hN : RowN w' w.heap.size (List.replicate M 0) := (hg2.block w.heap.size (by simp) (fun e => hne e.symm)).trans (heap_alloc_new w _)
  have hBl : Below Z w w' := ((Below.refl Z w).grown hg1 hZ (own_block hr))
  refine ⟨d', w', hrun, hBx.cell.2.2, hBx.frozen 2, hBl, hN.lt, ?_⟩
  rintro W rfl
  have hs : ∀ b, b ≠ Bt → (w'.setCell ⟨Bt, 2, none⟩ d').heap[b]? = w'.heap[b]? := fun b hb => Below.heap_setCell _ _ _ b hb
  have hBw := hb.lt
  have hlt := hN.lt
  have hd' : d'.ownBlock ≠ some w.heap.size := own_ne hown hN (by decide)
  have hdB : d'.ownBlock ≠ some Bt := own_ne hown hBx (by decide)
  refine ⟨hBx.set d', ?_, fun k b hk => ?_, (hs _ (by omega)).trans hN, hd', by simpa [World.setCell] using hlt, (hBl.mono (Nat.le_of_lt hBZ)).setCell (Nat.le_refl _) _⟩
  · have := hown.kept (grown_setCell w' Bt 2 d') (.inr hdB)
    simpa [rowsV] using this
  · obtain ⟨h1, h2⟩ := hrs k b hk
    have hlb := h2.lt
    have : RowN w' b (rowL x y M k) := (hg1.block b hlb (fun e => own_ne hr h2 (by decide) e.symm)).trans h2
    exact ⟨h1, hlb, (hs b (by omega)).trans this⟩

/-- A row more is filled. -/
theorem LaidT.next {W w : World} {Z Bt : Nat} {u v d : Value} {x y : List Int} {M i g : Nat} {gs : List Nat} {o : List Nat} (hg : W.grownBy w (some g)) (hb : TBox W Bt u v d) (hr : W.ownsRow Z 102 1 d (i + 1) (rowsV M (gs ++ [g]))) (hl : gs.length = i)
    (hrs : ∀ k b, gs[k]? = some b → Bt < b ∧ b < g ∧ RowN W b (rowL x y M k)) (hd : d.ownBlock ≠ some g) (hgB : Bt < g) (ho : RowN w g o) (hlo : o.length = M) (hv : ∀ k, k < M → o.getD k 0 = tab x y i k) : LaidT w Z Bt u v d x y M (i + 1) (gs ++ [g]) := by
  refine ⟨hb.kept hg (fun e => by cases e; omega), hr.kept hg (.inr hd), by simp [hl], fun k b hk => ?_⟩
  rw [List.getElem?_append] at hk
  split at hk
  · obtain ⟨h1, h2, h3⟩ := hrs k b hk
    exact ⟨h1, (hg.block b h3.lt (fun e => by cases e; omega)).trans h3⟩
  · rename_i hk'
    have e : k - gs.length = 0 := by
      cases hq : k - gs.length with
      | zero => rfl
      | succ q => rw [hq] at hk; simp at hk
    rw [e] at hk
    have hb : g = b := by simpa using hk
    subst hb
    have hki : k = i := by omega
    subst hki
    have : o = rowL x y M k := by
      apply List.ext_getElem?
      intro q
      by_cases hq : q < M
      · have h1 := hv q hq
        have h2 := rowL_getD x y M k q hq
        rw [List.getD_eq_getElem?_getD, List.getElem?_eq_getElem (by omega)] at h1
        rw [List.getD_eq_getElem?_getD, List.getElem?_eq_getElem (by rw [rowL_length]; omega)] at h2
        rw [List.getElem?_eq_getElem (by omega), List.getElem?_eq_getElem (by rw [rowL_length]; omega)]
        simp only [Option.getD_some] at h1 h2
        rw [h1, h2]
      · rw [List.getElem?_eq_none (by omega), List.getElem?_eq_none (by rw [rowL_length]; omega)]
    rw [← this]
    exact ⟨hgB, ho⟩
end Go.Proofs.YtnognphjndpgkaaGreatDoor

/- align.lay: the table of two tokens. -/
namespace Go.Proofs.YtnognphjndpgkaaGreatDoor
open Go.RowKit Go.Shelf

theorem step_append_run' {P : Program} {ops : Array Oper} {o : Oper} {a : Act} {w : World} {K : Act → World → Prop} {Q : Exit → Act → World → Prop} {E : Prop} (hgd : o.guard = none) (s x : Operand) (t : TypeId) (v u v' : Value) (w' : World)
    (ho : o.op = .call { callee := .builtin .append, args := #[s, x], argTypes := #[t, t] }) (hrun : (Builtin.append_ #[t, t] o.type #[v, u]).run P w = .ok v' w') (hs : a.eval s = v) (hx : a.eval x = u)
    (h : K (a.put o.dst v') w') : if Region.wanted o (yielded ops a.tmps) = true then Oper.wp P o a w K Q else E := by
  have hw : Region.wanted o (yielded ops a.tmps) = true := by simp [Region.wanted, hgd]
  rw [if_pos hw]
  unfold Oper.wp
  simp [execOp, ho, resolve, invoke, builtin, hs, hx, hrun, Result.andThen]
  exact h

theorem cell_set_ne (w : World) (g j : Nat) (u : Value) (b o : Nat) (h : b ≠ g) : (w.setCell ⟨g, j, none⟩ u).cell? ⟨b, o, none⟩ = w.cell? ⟨b, o, none⟩ := World.cell?_of_block (Below.heap_setCell _ _ _ b h)

theorem cells_set {w : World} {B j : Nat} {cs : Array Value} {ty : TypeId} (h : w.heap[B]? = some (.cells cs ty)) (u : Value) : (w.setCell ⟨B, j, none⟩ u).heap[B]? = some (.cells (cs.setIfInBounds j u) ty) := by
  have h' : w.heap[B]? = some (.cells cs ty (0, 0)) := h
  rw [setCell_eq_setRow w B j cs _ (0, 0) _ h']
  exact setRow_heap w B _ _ _ (0, 0) h'
/-- A row of runes is kept where a block of another kind is turned. -/
theorem Runs.aside {w w' : World} {v : Value} {l : List Int} (h : Runs w v l) (R : Nat) (hR : ∀ k z, w.cell? ⟨R, k, none⟩ ≠ some (.int .i32 z)) (hz : w.heap.size ≤ w'.heap.size) (hk : ∀ b, b ≠ R → b < w.heap.size → w'.heap[b]? = w.heap[b]?) : Runs w' v l := by
  obtain ⟨A, c, e, hc, hm, hx⟩ := h
  refine ⟨A, c, e, hc, hm, fun h0 => ?_⟩
  obtain ⟨b, o, eA, hlt, hcell⟩ := hx h0
  have hne : b ≠ R := fun e => by
    have := hcell 0 h0
    rw [e] at this
    exact hR _ _ this
  exact ⟨b, o, eA, Nat.lt_of_lt_of_le hlt hz, fun j hj => (World.cell?_of_block (hk b hne hlt)).trans (hcell j hj)⟩

/-- A region that comes to one end. -/
def OnlyAt (F : Act) (W : World) : Exit → Act → World → Prop
  | .normal, a, w => a = F ∧ w = W
  | _, _, _ => False
theorem wp_region_at {P : Program} {id : Nat} {ops : Array Oper} {b : Bool} {Q : Exit → Act → World → Prop} {a : Act} {w : World} (F : Act) (W : World)
    (h1 : (Code.region id ops b).wp P (OnlyAt F W) a w) (h2 : Q .normal F W) : (Code.region id ops b).wp P Q a w :=
  Code.wp_mono (fun e a w h => by
    cases e
    case normal => obtain ⟨rfl, rfl⟩ := h; exact h2
    all_goals exact (h : False).elim) h1

/-- A table that is laid: what it answers at each place. -/
def TabR (w : World) (d : Value) (x y : List Int) : Prop :=
  ∃ G dc, d = .slice (some ⟨G, 0, none⟩) (x.length + 1) dc ∧ ∀ i, i ≤ x.length → ∃ b, w.cell? ⟨G, i, none⟩ = some (.slice (some ⟨b, 0, none⟩) (y.length + 1) (y.length + 1)) ∧ ∀ j, j ≤ y.length → w.cell? ⟨b, j, none⟩ = some (.int .i64 (tab x y i j : Nat))

set_option maxRecDepth 100000 in
set_option maxHeartbeats 8000000 in
theorem lay_ok (s t : ByteArray) (w : World) (h : Okw w) (hs : s.size * 4 ≤ 140737488355328) (ht : t.size * 4 ≤ 140737488355328) (h1 : tokErr s.data.toList = 0) (h2 : tokErr t.data.toList = 0) :
    Calls Tryz.prog 48 #[.string s, .string t] w fun e w' => ∃ u v d, e = .returned (.tuple #[.agg #[u, v, d], .int .i64 0]) ∧ Hid (Runs w' u (tokRunes s.data.toList)) ∧ Hid (Runs w' v (tokRunes t.data.toList)) ∧ Hid (TabR w' d (tokRunes s.data.toList) (tokRunes t.data.toList)) ∧ Hid (Below w.heap.size w w') := by
  have k1 := fun (w : World) (h : Okw w) => token_any s w hs h.1 h.2
  have k2 := fun (w : World) (h : Okw w) => token_any t w ht h.1 h.2
  obtain ⟨lx, _⟩ := tok_len h1
  obtain ⟨ly, _⟩ := tok_len h2
  simp only [h1] at k1
  simp only [h2] at k2
  clear h1 h2
  obtain ⟨x, hx⟩ : ∃ x, tokRunes s.data.toList = x := ⟨_, rfl⟩
  obtain ⟨y, hy⟩ : ∃ y, tokRunes t.data.toList = y := ⟨_, rfl⟩
  simp only [hx] at lx k1 ⊢
  simp only [hy] at ly k2 ⊢
  clear hx hy
  obtain ⟨n, hn⟩ : ∃ n, x.length = n := ⟨_, rfl⟩
  obtain ⟨m, hm⟩ : ∃ m, y.length = m := ⟨_, rfl⟩
  simp only [hn] at k1 lx
  simp only [hm] at k2 ly
  have HN := Lib.hid hn; clear hn
  have HM := Lib.hid hm; clear hm
  have K1 := Lib.hid k1; clear k1
  have K2 := Lib.hid k2; clear k2
  have b0 : Below w.heap.size w (w.alloc (.cells #[.slice none 0 0, .slice none 0 0, .slice none 0 0] 83)) := (Below.refl _ _).alloc (Nat.le_refl _) _
  have c1 := K1.out _ (h.below b0)
  have B0 := Lib.hid b0; clear b0
  obtain ⟨N, hN⟩ : ∃ N : Nat, (n : Int) + 1 = (N : Int) := ⟨n + 1, rfl⟩
  obtain ⟨M, hM⟩ : ∃ M : Nat, (m : Int) + 1 = (M : Int) := ⟨m + 1, rfl⟩
  have hN2 : N = n + 1 := by omega
  have hM2 : M = m + 1 := by omega
  have HN2 := Lib.hid hN2; clear hN2
  have HM2 := Lib.hid hM2; clear hM2
  go_enter Tryz.func48, Tryz.ntmps48
  go_wp2_with fail
  refine c1.mono ?_
  rintro e w1 ⟨A, ca, rfl, r1, b1⟩
  have O1 : Hid (Okw w1) := Lib.hid ((h.below B0.out).below b1)
  have R1 := Lib.hid r1; clear r1 c1
  have B1 := Lib.hid b1; clear b1
  go_wp2_with fail
  refine (K2.out _ O1.out).mono ?_
  rintro e w2 ⟨B, cb, rfl, r2, b2⟩
  have R1' := Lib.hid (R1.out.below b2)
  have R2 := Lib.hid r2; clear r2 R1 K1 K2
  have B2 := Lib.hid b2; clear b2
  go_wp2
  obtain ⟨Bt, hBt⟩ : ∃ Bt, Bt = w2.heap.size := ⟨_, rfl⟩
  have T0 : Hid (LaidT (w2.alloc (.cells #[.slice A n ca, .slice B m cb, .slice none 0 0] 83)) (Bt + 1) Bt (.slice A n ca) (.slice B m cb) (.slice none 0 0) x y M 0 []) := Lib.hid ⟨by rw [hBt]; exact heap_alloc_new w2 _, World.ownsRow_nil _ _ _ _, rfl, fun k b hk => by simp at hk⟩
  have BB0 : Hid (Below Bt w2 (w2.alloc (.cells #[.slice A n ca, .slice B m cb, .slice none 0 0] 83))) := Lib.hid (by rw [hBt]; exact (Below.refl _ _).alloc (Nat.le_refl _) _)
  have z0 : Bt + 1 ≤ (w2.alloc (.cells #[.slice A n ca, .slice B m cb, .slice none 0 0] 83)).heap.size := by rw [hBt]; simp
  rw [← hBt]
  have HBt := Lib.hid hBt; clear hBt
  go_loopg [36] N (fun g s36 wr => ∃ (i : Nat) (gs : List Nat) (d : Value), s36 = .int .i64 i ∧ i ≤ N ∧ N - i ≤ g ∧ Hid (LaidT wr (Bt + 1) Bt (.slice A n ca) (.slice B m cb) d x y M i gs) ∧ Hid (Below Bt w2 wr) ∧ Bt + 1 ≤ wr.heap.size)
  case atStart => exact ⟨0, [], _, rfl, by omega, by omega, T0, BB0, z0⟩
  case round =>
    clear T0 BB0 z0
    obtain ⟨i, gs, d, rfl, hi, hg, HT, HB, hz⟩ := hrel
    by_cases hin : i < N
    · have hin' : (i : Int) < (N : Int) := by omega
      obtain ⟨d', w5, hrun, e1, e2, e3, e4, e5⟩ := HT.out.drew.grow (w := wr.drew) hz (Nat.lt_succ_self _) (by have := HN2.out; omega)
      obtain ⟨G', cap', rfl⟩ := ownsRow_succ (e5 _ rfl).2.1
      have hmk := make_ints wr.drew M (by have := HM2.out; omega)
      obtain ⟨c0, c1, c2⟩ := HT.out.box.cell
      have hrun' : (Builtin.append_ #[81, 81] 81 #[d, .slice (some ⟨wr.heap.size + 1, 0, none⟩) 1 1]).run Tryz.prog (((wr.alloc (.cells (cellsN (List.replicate M 0)) 3)).alloc (.cells #[.slice (some ⟨wr.heap.size, 0, none⟩) M M] 102)).drew) = .ok (.slice (some ⟨G', 0, none⟩) (i + 1) cap') w5 := hrun
      have hmk' : (Instr.makeSlice 102 (.int .i64 (M : Int)) (.int .i64 (M : Int))).run Tryz.prog wr.drew = .ok (.slice (some ⟨wr.heap.size, 0, none⟩) M M) ((wr.alloc (.cells (cellsN (List.replicate M 0)) 3)).drew) := hmk
      have c2a : (wr.alloc (.cells (cellsN (List.replicate M 0)) 3)).cell? ⟨Bt, 2, none⟩ = some d := (((Below.refl wr.heap.size wr).alloc (Nat.le_refl _) _).cell (p := ⟨Bt, 2, none⟩) (show Bt < wr.heap.size by omega)).trans c2
      have c2b : ((wr.alloc (.cells (cellsN (List.replicate M 0)) 3)).alloc (.cells #[.slice (some ⟨wr.heap.size, 0, none⟩) M M] 102)).cell? ⟨Bt, 2, none⟩ = some d := ((((Below.refl wr.heap.size wr).alloc (Nat.le_refl _) _).alloc (by simp) _).cell (p := ⟨Bt, 2, none⟩) (show Bt < wr.heap.size by omega)).trans c2
      have HR := Lib.hid hrun'; clear hrun hrun' hmk
      have q1 : IntKind.i64.wrap (M : Int) = (M : Int) := by rw [IntKind.wrap_i64]; have := HM2.out; omega
      have E3 := Lib.hid e3; clear e3
      have E5 := Lib.hid e5; clear e5
      have hmix : Tryz.prog.follows .mixedOrders = true := by kernel_rfl
      have HL : Hid (gs.length = i) := Lib.hid HT.out.len
      clear HT
      go_wp2
      apply wp_region_at (W := w5.setCell ⟨Bt, 2, none⟩ (.slice (some ⟨G', 0, none⟩) (i + 1) cap'))
      · go_region_law ((refine step_append_run' ?_ (.tmp 40) (.tmp 45) 81 _ _ _ _ ?_ HR.out ?_ ?_ ?_; rfl; rfl; go_simp; go_simp))
        all_goals exact ⟨rfl, rfl⟩
      obtain ⟨g, hgs⟩ : ∃ g, g = wr.heap.size := ⟨_, rfl⟩
      obtain ⟨W, hW⟩ : ∃ W, W = w5.setCell ⟨Bt, 2, none⟩ (.slice (some ⟨G', 0, none⟩) (i + 1) cap') := ⟨_, rfl⟩
      obtain ⟨k1, k2, k3, k4, k5, k6, k7⟩ := E5.out W hW
      have hgs' : wr.drew.heap.size = g := hgs.symm
      rw [hgs'] at k2 k3 k4 k5 k6
      have HG : Hid (G' ≠ g) := Lib.hid (fun e => k5 (by rw [e]; rfl))
      have BW : Hid (Below Bt w2 W) := Lib.hid (HB.out.drew.trans k7)
      have hBg : Bt < g := by omega
      rw [← hW, ← hgs]
      have T1 := Lib.hid k1; clear k1
      have T2 := Lib.hid k2; clear k2
      have T3 := Lib.hid k3; clear k3
      have T4 := Lib.hid k4; clear k4
      have T5 := Lib.hid k5; clear k5
      clear hW hgs hgs' k7 HR hmk' c0 c1 c2 c2a c2b e1 e2 e4 E3 E5 HB hz
      go_wp2
      go_loopg [51] M (fun q s51 wr => ∃ (j : Nat) (o : List Nat), s51 = .int .i64 j ∧ j ≤ M ∧ M - j ≤ q ∧ Hid (RowN wr g o) ∧ Hid (o.length = M) ∧ Hid (∀ k, k < j → o.getD k 0 = tab x y i k) ∧ Hid (W.grownBy wr (some g)))
      case atStart => exact ⟨0, _, rfl, by omega, by omega, T4, Lib.hid (by simp), Lib.hid (fun k hk => by omega), Lib.hid (World.grownBy.refl _ _)⟩
      case round =>
        clear T4
        obtain ⟨j, o, rfl, hj, hg2, R, HO, HV, HGr⟩ := hrel
        by_cases hjm : j < M
        · have hjm' : (j : Int) < (M : Int) := by omega
          have BT : Hid (TBox wr Bt (.slice A n ca) (.slice B m cb) (.slice (some ⟨G', 0, none⟩) (i + 1) cap')) := Lib.hid (T1.out.kept HGr.out (fun e => by cases e; omega))
          have OW : Hid (wr.ownsRow (Bt + 1) 102 1 (.slice (some ⟨G', 0, none⟩) (i + 1) cap') (i + 1) (rowsV M (gs ++ [g]))) := Lib.hid (T2.out.kept HGr.out (.inr T5.out))
          have BL : Hid (Below Bt w2 wr) := Lib.hid (BW.out.grown HGr.out (by omega) (fun k e => by cases e; omega))
          have BL' : Hid (Below w2.heap.size w2 wr) := Lib.hid (HBt.out ▸ BL.out)
          have C : Hid (Calls Tryz.prog 71 #[.agg #[.slice A n ca, .slice B m cb, .slice (some ⟨G', 0, none⟩) (i + 1) cap'], .int .i64 i, .int .i64 j] wr.drew fun e w' => e = .returned (.int .i64 (tab x y i j : Nat)) ∧ Below wr.drew.heap.size wr.drew w') := Lib.hid (by
            refine fewest_any _ _ _ x y i j wr.drew (R1'.out.below BL'.out.drew) (R2.out.below BL'.out.drew) (by rw [HN.out]; exact lx) (by rw [HM.out]; exact ly) (by rw [HN.out]; have := HN2.out; omega) (by rw [HM.out]; have := HM2.out; omega) ⟨_, _, _, rfl⟩ ?_
            intro i' j' ei ej
            have hl : gs.length = i := HL.out
            have hb : gs[i']? = some (gs[i']'(by omega)) := List.getElem?_eq_getElem (by omega)
            obtain ⟨q1, q2, q3⟩ := T3.out i' _ hb
            have q4 : RowN wr (gs[i']'(by omega)) (rowL x y M i') := (HGr.out.block _ q3.lt (fun e => by have := Option.some.inj e; omega)).trans q3
            have hMm : y.length + 1 = M := by rw [HM.out]; exact HM2.out.symm
            refine ⟨G', gs[i']'(by omega), g, i + 1, cap', rfl, by omega, by have := HN2.out; omega, ?_, ?_, ?_, ?_, ?_⟩
            · rw [hMm]
              exact own_cell' OW.out i' (by omega) _ (by rw [rowsV, List.getElem?_map, List.getElem?_append_left (by omega), hb]; rfl)
            · rw [hMm]
              exact own_cell' OW.out i (by omega) _ (by rw [rowsV, List.getElem?_map, List.getElem?_append_right (by omega), hl, Nat.sub_self]; rfl)
            · have := q4.cell j' (by rw [rowL_length]; omega)
              rwa [rowL_getD x y M i' j' (by omega)] at this
            · have := q4.cell j (by rw [rowL_length]; omega)
              rwa [rowL_getD x y M i' j (by omega)] at this
            · have := R.out.cell j' (by have := HO.out; omega)
              rwa [HV.out j' (by omega)] at this)
          obtain ⟨tv, htv⟩ : ∃ t, tab x y i j = t := ⟨_, rfl⟩
          rw [htv] at C
          have HTV := Lib.hid htv; clear htv
          obtain ⟨c0, c1, c2⟩ := BT.out.cell
          have c3 : wr.cell? ⟨G', i, none⟩ = some (.slice (some ⟨g, 0, none⟩) M M) := own_cell' OW.out i (by omega) _ (by rw [rowsV, List.getElem?_map, List.getElem?_append_right (by have := HL.out; omega), HL.out, Nat.sub_self]; rfl)
          have l1 : Bt < wr.heap.size := BT.out.lt
          have l2 : G' < wr.heap.size := cell_lt c3
          have l3 : g < wr.heap.size := R.out.lt
          have n1 : Bt ≠ g := by omega
          have n2 : G' ≠ g := HG.out
          have i1 : (i : Int) < (i : Int) + 1 := by omega
          obtain ⟨oj, hoj⟩ : ∃ oj, o.getD j 0 = oj := ⟨_, rfl⟩
          have c4 := R.out.cell j (by have := HO.out; omega)
          rw [hoj] at c4
          clear hoj
          go_wp2
          go_region_held3 (fun w' => w'.cell? ⟨Bt, 0, none⟩ = some (.slice A n ca) ∧ w'.cell? ⟨Bt, 1, none⟩ = some (.slice B m cb) ∧ w'.cell? ⟨Bt, 2, none⟩ = some (.slice (some ⟨G', 0, none⟩) (i + 1) cap') ∧ w'.cell? ⟨G', i, none⟩ = some (.slice (some ⟨g, 0, none⟩) M M)) (first | go_keep | exact ⟨(cell_set_ne _ _ _ _ _ _ n1).trans d0, (cell_set_ne _ _ _ _ _ _ n1).trans d1, (cell_set_ne _ _ _ _ _ _ n1).trans d2, (cell_set_ne _ _ _ _ _ _ n2).trans d3⟩)
            (first | (go_at_call 71; refine C.out.mono ?_; rintro e w4 ⟨rfl, hb4⟩; have d0 := (hb4.cell (p := ⟨Bt, 0, none⟩) l1).trans c0; have d1 := (hb4.cell (p := ⟨Bt, 1, none⟩) l1).trans c1; have d2 := (hb4.cell (p := ⟨Bt, 2, none⟩) l1).trans c2; have d3 := (hb4.cell (p := ⟨G', i, none⟩) l2).trans c3; have d4 := (hb4.cell (p := ⟨g, j, none⟩) l3).trans c4; have d5 := (hb4.frozen (p := ⟨g, j, none⟩) l3).trans (R.out.frozen j); have HB4 := Lib.hid hb4; clear hb4))
          go_wp2
          go_roundg (M - (j + 1))
          case measure => omega
          case rel =>
            have hb4 : Below wr.heap.size wr w4 := ⟨HB4.out.os, HB4.out.tape, HB4.out.output, HB4.out.size, HB4.out.block⟩
            refine ⟨j + 1, o.set j tv, rfl, by omega, by omega, Lib.hid ((R.out.below hb4 l3).set j tv), Lib.hid (by rw [List.length_set]; exact HO.out), Lib.hid (fun k hk => ?_), Lib.hid (HGr.out.trans ((grown_of_below hb4 _).trans (grown_setCell _ _ _ _)))⟩
            rw [getD_set _ _ _ _ (by have := HO.out; omega)]
            split
            · rename_i e; subst e; exact HTV.out.symm
            · exact HV.out k (by omega)
        · obtain rfl : j = M := by omega
          have HT2 : Hid (LaidT wr (Bt + 1) Bt (.slice A n ca) (.slice B m cb) (.slice (some ⟨G', 0, none⟩) (i + 1) cap') x y j (i + 1) (gs ++ [g])) := Lib.hid (LaidT.next HGr.out T1.out T2.out HL.out T3.out T5.out hBg R.out HO.out HV.out)
          have HB2 : Hid (Below Bt w2 wr) := Lib.hid (BW.out.grown HGr.out (by omega) (fun k e => by cases e; omega))
          have hz2 : Bt + 1 ≤ wr.heap.size := HT2.out.box.lt
          go_wp2
          go_roundg (N - (i + 1))
          case measure => omega
          case rel => exact ⟨i + 1, gs ++ [g], _, rfl, by omega, by omega, HT2, HB2, hz2⟩
    · obtain rfl : i = N := by omega
      have HS := HT.out
      obtain ⟨c0, c1, c2⟩ := HS.box.cell
      obtain ⟨G', cap', rfl⟩ : ∃ G cap, d = .slice (some ⟨G, 0, none⟩) i cap := by
        have hr := HS.row
        rw [HN2.out] at hr ⊢
        exact ownsRow_succ hr
      have hR : w.heap.size < w2.heap.size := by have := B1.out.size; have := B2.out.size; simp at *; omega
      have hcell : ∀ k, k < 3 → wr.cell? ⟨w.heap.size, k, none⟩ = some (.slice none 0 0) ∧ wr.frozen? ⟨w.heap.size, k, none⟩ = false := fun k hk => by
        have e1 : wr.heap[w.heap.size]? = some (.cells #[.slice none 0 0, .slice none 0 0, .slice none 0 0] 83) :=
          ((HB.out.block w.heap.size (by rw [HBt.out]; exact hR)).trans ((B2.out.block w.heap.size (Nat.lt_of_lt_of_le (by simp) B1.out.size)).trans (B1.out.block w.heap.size (by simp)))).trans (heap_alloc_new w _)
        constructor
        · rw [cell_of_row wr w.heap.size k _ _ (0, 0) e1]
          rcases k with _ | _ | _ | k
          · rfl
          · rfl
          · rfl
          · omega
        · have e2 : wr.heap[w.heap.size]? = some (.cells #[.slice none 0 0, .slice none 0 0, .slice none 0 0] 83 (0, 0)) := e1
          simp [World.frozen?, e2]
      have hRcells : Hid (∀ k z, wr.cell? ⟨w.heap.size, k, none⟩ ≠ some (.int .i32 z)) := Lib.hid (fun k z hc => by
        by_cases hk : k < 3
        · rw [(hcell k hk).1] at hc; cases hc
        · have e1 : wr.heap[w.heap.size]? = some (.cells #[.slice none 0 0, .slice none 0 0, .slice none 0 0] 83) :=
            ((HB.out.block w.heap.size (by rw [HBt.out]; exact hR)).trans ((B2.out.block w.heap.size (Nat.lt_of_lt_of_le (by simp) B1.out.size)).trans (B1.out.block w.heap.size (by simp)))).trans (heap_alloc_new w _)
          rw [cell_of_row wr w.heap.size k _ _ (0, 0) e1, Array.getElem?_eq_none (by simp; omega)] at hc
          cases hc)
      have hRb : Hid (wr.heap[w.heap.size]? = some (.cells #[.slice none 0 0, .slice none 0 0, .slice none 0 0] 83)) := Lib.hid
        (((HB.out.block w.heap.size (by rw [HBt.out]; exact hR)).trans ((B2.out.block w.heap.size (Nat.lt_of_lt_of_le (by simp) B1.out.size)).trans (B1.out.block w.heap.size (by simp)))).trans (heap_alloc_new w _))
      obtain ⟨p0, z0⟩ := hcell 0 (by omega)
      obtain ⟨p1, z1⟩ := hcell 1 (by omega)
      obtain ⟨p2, z2⟩ := hcell 2 (by omega)
      clear hcell
      have HHS := Lib.hid HS; clear HS
      have HRl := Lib.hid hR; clear hR
      go_wp2
      obtain ⟨WF, hWF⟩ : ∃ WF, WF = ((wr.setCell ⟨w.heap.size, 0, none⟩ (.slice A n ca)).setCell ⟨w.heap.size, 1, none⟩ (.slice B m cb)).setCell ⟨w.heap.size, 2, none⟩ (.slice (some ⟨G', 0, none⟩) i cap') := ⟨_, rfl⟩
      have F0 : TBox WF w.heap.size (.slice A n ca) (.slice B m cb) (.slice (some ⟨G', 0, none⟩) i cap') := by
        rw [hWF]
        exact cells_set (cells_set (cells_set hRb.out _) _) _
      have Fo : ∀ b, b ≠ w.heap.size → WF.heap[b]? = wr.heap[b]? := fun b hb => by
        rw [hWF]
        exact (Below.heap_setCell _ _ _ b hb).trans ((Below.heap_setCell _ _ _ b hb).trans (Below.heap_setCell _ _ _ b hb))
      have Fz : WF.heap.size = wr.heap.size := by rw [hWF]; simp [World.setCell]
      have bw : Below w.heap.size w wr := B0.out.trans ((B1.out.mono B0.out.size).trans ((B2.out.mono (Nat.le_trans B0.out.size B1.out.size)).trans (HB.out.mono (by rw [HBt.out]; exact Nat.le_of_lt HRl.out))))
      have bF : Below w.heap.size w WF := by
        rw [hWF]
        exact ((bw.setCell (Nat.le_refl _) _).setCell (Nat.le_refl _) _).setCell (Nat.le_refl _) _
      rw [← hWF]
      obtain ⟨f0, f1, f2⟩ := F0.cell
      have BL' : Below w2.heap.size w2 wr := HBt.out ▸ HB.out
      refine bodyPost_ret (v := .tuple #[.agg #[.slice A n ca, .slice B m cb, .slice (some ⟨G', 0, none⟩) i cap'], .int .i64 0]) (by simp [results, Tryz.results48, go_sem, f0, f1, f2]) rfl ⟨_, _, _, rfl, Lib.hid ?_, Lib.hid ?_, Lib.hid ?_, Lib.hid bF⟩
      · exact (R1'.out.below BL').aside w.heap.size hRcells.out (Nat.le_of_eq Fz.symm) (fun b hb _ => Fo b hb)
      · exact (R2.out.below BL').aside w.heap.size hRcells.out (Nat.le_of_eq Fz.symm) (fun b hb _ => Fo b hb)
      · obtain ⟨hb, hr, hl, hrs⟩ := HHS.out
        have hi2 : i = x.length + 1 := by rw [HN.out]; exact HN2.out
        have hM3 : M = y.length + 1 := by rw [HM.out]; exact HM2.out
        have hBw := HBt.out
        have hRl := HRl.out
        refine ⟨G', cap', by rw [hi2], fun k hk => ?_⟩
        have hbk : gs[k]? = some (gs[k]'(by omega)) := List.getElem?_eq_getElem (by omega)
        obtain ⟨q1, q2⟩ := hrs k _ hbk
        have hG : w.heap.size ≠ G' := fun e => by
          have := own_ne hr hRb.out (by decide)
          exact this (by rw [e]; rfl)
        refine ⟨gs[k]'(by omega), ?_, fun j hj => ?_⟩
        · rw [World.cell?_of_block (Fo G' (fun e => hG e.symm)), ← hM3]
          exact own_cell' hr k (by omega) _ (by rw [rowsV, List.getElem?_map, hbk]; rfl)
        · have hq : gs[k]'(by omega) ≠ w.heap.size := by omega
          rw [World.cell?_of_block (Fo _ hq)]
          have := q2.cell j (by rw [rowL_length]; omega)
          rwa [rowL_getD x y M k j (by omega)] at this

set_option maxRecDepth 100000 in
set_option maxHeartbeats 4000000 in
theorem lay_bad (s t : ByteArray) (w : World) (h : Okw w) (hs : s.size * 4 ≤ 140737488355328) (ht : t.size * 4 ≤ 140737488355328) (h2 : tokErr2 s.data.toList t.data.toList ≠ 0) :
    Calls Tryz.prog 48 #[.string s, .string t] w fun e w' => e = .returned (.tuple #[.agg #[.slice none 0 0, .slice none 0 0, .slice none 0 0], .int .i64 (tokErr2 s.data.toList t.data.toList)]) ∧ Hid (Below w.heap.size w w') := by
  have k1 := fun (w : World) (h : Okw w) => token_any s w hs h.1 h.2
  have k2 := fun (w : World) (h : Okw w) => token_any t w ht h.1 h.2
  have b0 : Below w.heap.size w (w.alloc (.cells #[.slice none 0 0, .slice none 0 0, .slice none 0 0] 83)) := (Below.refl _ _).alloc (Nat.le_refl _) _
  have B0 := Lib.hid b0; clear b0
  have fin : ∀ W : World, Below (w.alloc (.cells #[.slice none 0 0, .slice none 0 0, .slice none 0 0] 83)).heap.size (w.alloc (.cells #[.slice none 0 0, .slice none 0 0, .slice none 0 0] 83)) W →
      ∀ k, k < 3 → W.cell? ⟨w.heap.size, k, none⟩ = some (.slice none 0 0) ∧ W.frozen? ⟨w.heap.size, k, none⟩ = false := fun W hW k hk => by
    have e1 : W.heap[w.heap.size]? = some (.cells #[.slice none 0 0, .slice none 0 0, .slice none 0 0] 83 (0, 0)) := (hW.block w.heap.size (by simp)).trans (heap_alloc_new w _)
    constructor
    · rw [cell_of_row W w.heap.size k _ _ (0, 0) e1]
      rcases k with _ | _ | _ | k
      · rfl
      · rfl
      · rfl
      · omega
    · simp [World.frozen?, e1]
  have fin2 : ∀ W : World, Below (w.alloc (.cells #[.slice none 0 0, .slice none 0 0, .slice none 0 0] 83)).heap.size (w.alloc (.cells #[.slice none 0 0, .slice none 0 0, .slice none 0 0] 83)) W →
      ∃ WF, WF = ((W.setCell ⟨w.heap.size, 0, none⟩ (.slice none 0 0)).setCell ⟨w.heap.size, 1, none⟩ (.slice none 0 0)).setCell ⟨w.heap.size, 2, none⟩ (.slice none 0 0) ∧ TBox WF w.heap.size (.slice none 0 0) (.slice none 0 0) (.slice none 0 0) ∧ Below w.heap.size w WF := fun W hW => by
    have e1 : W.heap[w.heap.size]? = some (.cells #[.slice none 0 0, .slice none 0 0, .slice none 0 0] 83) := (hW.block w.heap.size (by simp)).trans (heap_alloc_new w _)
    have bw : Below w.heap.size w W := B0.out.trans (hW.mono B0.out.size)
    exact ⟨_, rfl, cells_set (cells_set (cells_set e1 _) _) _, ((bw.setCell (Nat.le_refl _) _).setCell (Nat.le_refl _) _).setCell (Nat.le_refl _) _⟩
  have FN := Lib.hid fin; clear fin
  have FN2 := Lib.hid fin2; clear fin2
  by_cases h1 : tokErr s.data.toList = 0
  · have e2 : tokErr2 s.data.toList t.data.toList = tokErr t.data.toList := if_pos h1
    rw [e2] at h2 ⊢
    simp only [h1] at k1
    obtain ⟨er, he⟩ : ∃ er, tokErr t.data.toList = er := ⟨_, rfl⟩
    simp only [he] at k2
    rw [he] at h2 ⊢
    clear he e2 h1
    have c1 := k1 _ (h.below B0.out)
    have K2 := Lib.hid k2; clear k2 k1
    go_enter Tryz.func48, Tryz.ntmps48
    go_wp2_with fail
    refine c1.mono ?_
    rintro e w1 ⟨A, ca, rfl, r1, b1⟩
    have O1 : Hid (Okw w1) := Lib.hid ((h.below B0.out).below b1)
    clear r1 c1
    have B1 := Lib.hid b1; clear b1
    go_wp2_with fail
    refine (K2.out _ O1.out).mono ?_
    rintro e w2 ⟨B, cb, rfl, r2, b2⟩
    have B2 := Lib.hid (B1.out.trans (b2.mono B1.out.size)); clear r2 K2 b2
    obtain ⟨p0, z0⟩ := FN.out w2 B2.out 0 (by omega)
    obtain ⟨p1, z1⟩ := FN.out w2 B2.out 1 (by omega)
    obtain ⟨p2, z2⟩ := FN.out w2 B2.out 2 (by omega)
    go_wp2
    obtain ⟨WF, hWF, F0, bF⟩ := FN2.out w2 B2.out
    rw [← hWF]
    obtain ⟨f0, f1, f2⟩ := F0.cell
    exact bodyPost_ret (v := .tuple #[.agg #[.slice none 0 0, .slice none 0 0, .slice none 0 0], .int .i64 er]) (by simp [results, Tryz.results48, go_sem, f0, f1, f2]) rfl ⟨rfl, Lib.hid bF⟩
  · have e2 : tokErr2 s.data.toList t.data.toList = tokErr s.data.toList := if_neg h1
    rw [e2]
    obtain ⟨er, he⟩ : ∃ er, tokErr s.data.toList = er := ⟨_, rfl⟩
    simp only [he] at k1
    rw [he] at h1 ⊢
    clear he e2 h2
    have c1 := k1 _ (h.below B0.out)
    clear k2 k1
    go_enter Tryz.func48, Tryz.ntmps48
    go_wp2_with fail
    refine c1.mono ?_
    rintro e w1 ⟨A, ca, rfl, r1, b1⟩
    clear r1 c1
    have B1 := Lib.hid b1; clear b1
    obtain ⟨p0, z0⟩ := FN.out w1 B1.out 0 (by omega)
    obtain ⟨p1, z1⟩ := FN.out w1 B1.out 1 (by omega)
    obtain ⟨p2, z2⟩ := FN.out w1 B1.out 2 (by omega)
    go_wp2
    obtain ⟨WF, hWF, F0, bF⟩ := FN2.out w1 B1.out
    rw [← hWF]
    obtain ⟨f0, f1, f2⟩ := F0.cell
    exact bodyPost_ret (v := .tuple #[.agg #[.slice none 0 0, .slice none 0 0, .slice none 0 0], .int .i64 er]) (by simp [results, Tryz.results48, go_sem, f0, f1, f2]) rfl ⟨rfl, Lib.hid bF⟩
end Go.Proofs.YtnognphjndpgkaaGreatDoor

