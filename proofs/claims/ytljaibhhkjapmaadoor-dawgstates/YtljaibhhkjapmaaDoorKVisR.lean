/- The document's automaton as it lies: rows of slices of runes, rows of states, apart from one block that is turned. -/
import Derived.Test.YtljaibhhkjapmaaDoorPk1
import Derived.Test.YtljaibhhkjapmaaDoorPk7
import Derived.Test.YtljaibhhkjapmaaDoorPk16
import Derived.Test.YtljaibhhkjapmaaDoorPk8
namespace Go.Proofs.YtljaibhhkjapmaaDoor
open Go.RowKit Go.Shelf
set_option linter.unusedSimpArgs false
set_option linter.unusedVariables false

/-- A slice as it lies in a cell. -/
abbrev SlV := Option Addr × Nat × Nat
def slv (a : SlV) : Value := .slice a.1 a.2.1 a.2.2
def slCell (a : SlV) : List Value := [slv a]
theorem sl_ln (a : SlV) : (slCell a).length = 1 := rfl
theorem sl_one (a : SlV) : ∀ u ∈ slCell a, u.oneCell' = true := by
  intro u h
  obtain rfl : u = slv a := by simpa [slCell] using h
  rfl
/-- A state as it lies: its rests, whether a word ends, its edges. -/
abbrev StV := SlV × Bool × SlV
def stv (a : StV) : List Value := [slv a.1, .bool a.2.1, slv a.2.2]
theorem stv_ln (a : StV) : (stv a).length = 3 := rfl
theorem stv_one (a : StV) : ∀ u ∈ stv a, u.oneCell' = true := by
  intro u h
  have h : u = slv a.1 ∨ u = .bool a.2.1 ∨ u = slv a.2.2 := by simpa [stv] using h
  rcases h with rfl | rfl | rfl <;> rfl
/-- A slice that lies in none of some blocks. -/
def Apt (v : Value) (X : Nat → Prop) : Prop := ∀ A n c, v = .slice A n c → 0 < n → ∀ p : Addr, A = some p → ¬ X p.block
theorem Apt.nil (X : Nat → Prop) : Apt (.slice none 0 0) X := fun A n c e h0 => by cases e; omega
theorem Apt.less {v : Value} {X Y : Nat → Prop} (h : Apt v X) (hY : ∀ k, Y k → X k) : Apt v Y := fun A n c e h0 p eA hp => h A n c e h0 p eA (hY _ hp)
theorem GRuns.aprt {α : Type} {enc : α → List Value} {k : Nat} {w w' : World} {v : Value} {l : List α} {X : Nat → Prop} {row : Option Nat} (h : GRuns enc k w v l) (ha : Apt v X) (hg : w.grownBy w' row) (hr : ∀ k, row = some k → X k) : GRuns enc k w' v l := by
  obtain ⟨A, c, e, hc, hm, hx⟩ := h
  refine ⟨A, c, e, hc, hm, fun h0 => ?_⟩
  obtain ⟨b, o, e2, hlt, hcell⟩ := hx h0
  have hne : some b ≠ row := fun e3 => ha _ _ _ e h0 _ e2 (hr _ e3.symm)
  exact ⟨b, o, e2, Nat.lt_of_lt_of_le hlt hg.size, fun j x hj i u hu => (World.cell?_of_block (hg.block b hlt hne)).trans (hcell j x hj i u hu)⟩
theorem Runs.aprt {w w' : World} {v : Value} {l : List Int} {X : Nat → Prop} {row : Option Nat} (h : Runs w v l) (ha : Apt v X) (hg : w.grownBy w' row) (hr : ∀ k, row = some k → X k) : Runs w' v l := by
  obtain ⟨A, c, e, hc, hm, hx⟩ := h
  refine ⟨A, c, e, hc, hm, fun h0 => ?_⟩
  obtain ⟨b, o, e2, hlt, hcell⟩ := hx h0
  have hne : some b ≠ row := fun e3 => ha _ _ _ e h0 _ e2 (hr _ e3.symm)
  exact ⟨b, o, e2, Nat.lt_of_lt_of_le hlt hg.size, fun j hj => (World.cell?_of_block (hg.block b hlt hne)).trans (hcell j hj)⟩
/-- Blocks that are turned from now on: they are among those that were, or they are new. -/
def XOn (w : World) (X Y : Nat → Prop) : Prop := ∀ k, Y k → X k ∨ w.heap.size ≤ k
theorem XOn.refl (w : World) (X : Nat → Prop) : XOn w X X := fun k h => .inl h
theorem GRuns.apton {α : Type} {enc : α → List Value} {k : Nat} {w : World} {v : Value} {l : List α} {X Y : Nat → Prop} (h : GRuns enc k w v l) (ha : Apt v X) (hr : XOn w X Y) : Apt v Y := by
  obtain ⟨A, c, e, hc, hm, hx⟩ := h
  intro A' n' c' e' h0 p eA hp
  rw [e] at e'
  cases e'
  obtain ⟨b', o', e2, hlt, _⟩ := hx h0
  rw [e2] at eA
  cases eA
  rcases hr _ hp with h1 | h1
  · exact ha _ _ _ e h0 _ e2 h1
  · have h2 : w.heap.size ≤ b' := h1
    omega
theorem Runs.apton {w : World} {v : Value} {l : List Int} {X Y : Nat → Prop} (h : Runs w v l) (ha : Apt v X) (hr : XOn w X Y) : Apt v Y := by
  obtain ⟨A, c, e, hc, hm, hx⟩ := h
  intro A' n' c' e' h0 p eA hp
  rw [e] at e'
  cases e'
  obtain ⟨b', o', e2, hlt, _⟩ := hx h0
  rw [e2] at eA
  cases eA
  rcases hr _ hp with h1 | h1
  · exact ha _ _ _ e h0 _ e2 h1
  · have h2 : w.heap.size ≤ b' := h1
    omega
/-- How one block that is turned goes on: it stays, or there is a new one. -/
def RowOn (w : World) (row row' : Option Nat) : Prop := row' = row ∨ ∃ k, row' = some k ∧ w.heap.size ≤ k
theorem RowOn.refl (w : World) (row : Option Nat) : RowOn w row row := .inl rfl
theorem RowOn.trans {w w' : World} {a b c : Option Nat} (h : RowOn w a b) (hs : w.heap.size ≤ w'.heap.size) (k : RowOn w' b c) : RowOn w a c := by
  rcases k with rfl | ⟨k, e, hk⟩
  · exact h
  · exact .inr ⟨k, e, by omega⟩
theorem grown_on {w w1 w2 : World} {a b : Option Nat} (h : w.grownBy w1 a) (hr : RowOn w a b) (k : w1.grownBy w2 b) : w.grownBy w2 a :=
  ⟨k.os.trans h.os, k.tape.trans h.tape, k.output.trans h.output, Nat.le_trans h.size k.size, fun i hi hne => (k.block i (Nat.lt_of_lt_of_le hi h.size) (fun e => by
    rcases hr with rfl | ⟨m, e2, hm⟩
    · exact hne e
    · rw [e2] at e
      cases e
      omega)).trans (h.block i hi hne)⟩
theorem below_grown {w w' : World} (hb : Below w.heap.size w w') (row : Option Nat) : w.grownBy w' row := ⟨hb.os, hb.tape, hb.output, hb.size, fun k hk _ => hb.block k hk⟩
/-- Rests as they lie, apart from some blocks. -/
def RsX (w : World) (u : Value) (q : List (List Int)) (X : Nat → Prop) : Prop :=
  ∃ T : List SlV, T.length = q.length ∧ GRuns slCell 1 w u T ∧ Apt u X ∧ ∀ (i : Nat) (t : SlV) (x : List Int), T[i]? = some t → q[i]? = some x → Runs w (slv t) x ∧ Apt (slv t) X
theorem RsX.grown {w w' : World} {u : Value} {q : List (List Int)} {X Y : Nat → Prop} {row : Option Nat} (h : RsX w u q X) (hg : w.grownBy w' row) (hr : ∀ k, row = some k → X k) (hY : XOn w X Y) : RsX w' u q Y := by
  obtain ⟨T, hl, hT, ha, hx⟩ := h
  exact ⟨T, hl, hT.aprt ha hg hr, hT.apton ha hY, fun i t x ht hq => by
    obtain ⟨h1, h2⟩ := hx i t x ht hq
    exact ⟨h1.aprt h2 hg hr, h1.apton h2 hY⟩⟩
theorem RsX.below {w w' : World} {u : Value} {q : List (List Int)} {X : Nat → Prop} (h : RsX w u q X) (hb : Below w.heap.size w w') : RsX w' u q X := h.grown (below_grown hb none) (fun k e => by cases e) (XOn.refl _ _)
theorem RsX.less {w : World} {u : Value} {q : List (List Int)} {X Y : Nat → Prop} (h : RsX w u q X) (hY : XOn w X Y) : RsX w u q Y := h.grown (World.grownBy.refl w none) (fun k e => by cases e) hY
theorem RsX.slice {w : World} {u : Value} {q : List (List Int)} {X : Nat → Prop} (h : RsX w u q X) : ∃ A c, u = .slice A q.length c := by
  obtain ⟨T, hl, hT, ha, hx⟩ := h
  obtain ⟨A, c, e⟩ := hT.slice
  rw [hl] at e
  exact ⟨A, c, e⟩
theorem RsX.cap {w : World} {u : Value} {q : List (List Int)} {X : Nat → Prop} (h : RsX w u q X) : q.length ≤ 9223372036854775807 := by
  obtain ⟨T, hl, hT, _⟩ := h
  obtain ⟨A', c', e, hc, hmx, _⟩ := hT
  have := hmx.1
  unfold maxLen at this
  omega
/-- One of the rests, as it lies: its slice's cell. -/
theorem RsX.at_ {w : World} {A : Option Addr} {n c : Nat} {q : List (List Int)} {X : Nat → Prop} (h : RsX w (.slice A n c) q X) (hn : q.length = n) {i : Nat} {x : List Int} (hx : q[i]? = some x) :
    ∃ (b o : Nat) (t : Option Addr × Nat), A = some ⟨b, o, none⟩ ∧ w.cell? ⟨b, o + i, none⟩ = some (.slice t.1 x.length t.2) ∧ Runs w (.slice t.1 x.length t.2) x ∧ Apt (.slice t.1 x.length t.2) X := by
  obtain ⟨T, hl, hT, ha, hc⟩ := h
  have hi := (List.getElem?_eq_some_iff.1 hx).1
  obtain ⟨b, o, e, _, hcell⟩ := hT.cells (hl.trans hn) (by omega)
  obtain ⟨t, ht⟩ : ∃ t, T[i]? = some t := ⟨_, List.getElem?_eq_getElem (by omega)⟩
  have h1 := hcell i t ht 0 _ rfl
  obtain ⟨h2, h3⟩ := hc i t x ht hx
  obtain ⟨A', c', e'⟩ : ∃ A' c', slv t = .slice A' x.length c' := by
    obtain ⟨A', c', e', _⟩ := h2
    exact ⟨A', c', e'⟩
  simp only [Nat.mul_one, Nat.add_zero] at h1
  rw [e'] at h1 h2 h3
  exact ⟨b, o, (A', c'), e, h1, h2, h3⟩
theorem RsX.nil (w : World) (X : Nat → Prop) : RsX w (.slice none 0 0) [] X := ⟨[], rfl, GRuns.nil_ _ _ _, Apt.nil _, fun i t x ht => by simp at ht⟩
theorem own_apt {w : World} {base n size : Nat} {T : TypeId} {v : Value} {xs : List Value} {X : Nat → Prop} (h : w.ownsRow base T size v n xs) (hX : ∀ k, X k → v.ownBlock = some k → False) : Apt v X := fun A n' c e h0 p eA e2 => by
  subst e
  subst eA
  exact hX _ e2 rfl
theorem own_apt_lt {w : World} {base n size : Nat} {T : TypeId} {v : Value} {xs : List Value} {X : Nat → Prop} (h : w.ownsRow base T size v n xs) (hX : ∀ k, X k → k < base) : Apt v X := own_apt h (fun k hk e => by
  rcases h.2 with ⟨e3, _⟩ | ⟨g, cap, cur, e3, hb, _⟩
  · rw [e3] at e; cases e
  · rw [e3] at e
    have e4 : g = k := Option.some.inj e
    have := hX k hk
    omega)
/-- Rests in a row of the call's own. -/
theorem RsX.of_own {w : World} {base n : Nat} {v : Value} {T : List SlV} {q : List (List Int)} {X : Nat → Prop} (hn : T.length = n) (hq : q.length = n) (h : w.ownsRow base 84 1 v n (gCells slCell T)) (hr : ∀ k, X k → k < base) (hx : ∀ (i : Nat) (t : SlV) (x : List Int), T[i]? = some t → q[i]? = some x → Runs w (slv t) x ∧ Apt (slv t) X) : RsX w v q X :=
  ⟨T, hn.trans hq.symm, GRuns.of_own sl_ln hn h, own_apt_lt h hr, hx⟩
/-- Edges as they lie, apart from some blocks. -/
def EdX (w : World) (u : Value) (l : List OEd) (X : Nat → Prop) : Prop := GRuns oeCell 2 w u l ∧ Apt u X
theorem EdX.grown {w w' : World} {u : Value} {q : List OEd} {X Y : Nat → Prop} {row : Option Nat} (h : EdX w u q X) (hg : w.grownBy w' row) (hr : ∀ k, row = some k → X k) (hY : XOn w X Y) : EdX w' u q Y := ⟨h.1.aprt h.2 hg hr, h.1.apton h.2 hY⟩
theorem EdX.nil (w : World) (X : Nat → Prop) : EdX w (.slice none 0 0) [] X := ⟨GRuns.nil_ _ _ _, Apt.nil _⟩
/-- One state as it lies. -/
def StX (w : World) (t : StV) (s : StD Int) (X : Nat → Prop) : Prop := RsX w (slv t.1) s.1 X ∧ t.2.1 = s.2.1 ∧ EdX w (slv t.2.2) s.2.2 X
theorem StX.grown {w w' : World} {t : StV} {s : StD Int} {X Y : Nat → Prop} {row : Option Nat} (h : StX w t s X) (hg : w.grownBy w' row) (hr : ∀ k, row = some k → X k) (hY : XOn w X Y) : StX w' t s Y := ⟨h.1.grown hg hr hY, h.2.1, h.2.2.grown hg hr hY⟩
/-- A row's own block, and some more. -/
def XR (v : Value) (R : Nat → Prop) (k : Nat) : Prop := v.ownBlock = some k ∨ R k
theorem xr_on {w : World} {v v' : Value} {R : Nat → Prop} (h : RowOn w v.ownBlock v'.ownBlock) : XOn w (XR v R) (XR v' R) := fun k hk => by
  rcases hk with hk | hk
  · rcases h with h | ⟨m, h, hm⟩
    · exact .inl (.inl (h ▸ hk))
    · rw [h] at hk; cases hk; exact .inr hm
  · exact .inl (.inr hk)
/-- A row of states, apart from some blocks. -/
structure StRow (w : World) (base : Nat) (v : Value) (S : List (StD Int)) (T : List StV) (R : Nat → Prop) : Prop where
  len : T.length = S.length
  own : w.ownsRow base 37 3 v S.length (gCells stv T)
  each : ∀ (i : Nat) (t : StV) (s : StD Int), T[i]? = some t → S[i]? = some s → StX w t s (XR v R)
theorem StRow.nil (w : World) (base : Nat) (R : Nat → Prop) : StRow w base (.slice none 0 0) [] [] R := ⟨rfl, World.ownsRow_nil _ _ _ _, fun i t s h => by simp at h⟩
/-- Where the row's own block is not turned. -/
theorem StRow.grown {w w' : World} {base : Nat} {v : Value} {S : List (StD Int)} {T : List StV} {R R' : Nat → Prop} {row : Option Nat} (h : StRow w base v S T R) (hg : w.grownBy w' row) (hv : v.ownBlock = none ∨ v.ownBlock ≠ row) (hr : ∀ k, row = some k → R k) (hY : XOn w R R') : StRow w' base v S T R' :=
  ⟨h.len, h.own.kept hg hv, fun i t s ht hs => (h.each i t s ht hs).grown hg (fun k e => .inr (hr k e)) (fun k hk => by
    rcases hk with hk | hk
    · exact .inl (.inl hk)
    · rcases hY k hk with h1 | h1
      · exact .inl (.inr h1)
      · exact .inr h1)⟩
theorem StRow.below {w w' : World} {base : Nat} {v : Value} {S : List (StD Int)} {T : List StV} {R : Nat → Prop} (h : StRow w base v S T R) (hb : Below w.heap.size w w') : StRow w' base v S T R :=
  h.grown (below_grown hb none) (by cases v.ownBlock <;> simp) (fun k e => by cases e) (XOn.refl _ _)
theorem StRow.less {w : World} {base : Nat} {v : Value} {S : List (StD Int)} {T : List StV} {R R' : Nat → Prop} (h : StRow w base v S T R) (hY : XOn w R R') : StRow w base v S T R' :=
  h.grown (World.grownBy.refl w none) (by cases v.ownBlock <;> simp) (fun k e => by cases e) hY
/-- The row has grown by one state. -/
theorem StRow.push {w w' : World} {base : Nat} {v v' : Value} {S : List (StD Int)} {T : List StV} {R : Nat → Prop} (h : StRow w base v S T R) (t : StV) (s : StD Int) (hg : w.grownBy w' v.ownBlock) (hr : RowOn w v.ownBlock v'.ownBlock)
    (ho : w'.ownsRow base 37 3 v' (S.length + 1) (gCells stv T ++ stv t)) (ht : StX w t s (XR v R)) : StRow w' base v' (S ++ [s]) (T ++ [t]) R := by
  refine ⟨by simp [h.len], by rw [gCells_snoc, List.length_append]; exact ho, fun i a b ha hb => ?_⟩
  by_cases hi : i < S.length
  · rw [List.getElem?_append_left (by rw [h.len]; exact hi)] at ha
    rw [List.getElem?_append_left hi] at hb
    exact (h.each i a b ha hb).grown hg (fun k e => .inl e) (xr_on hr)
  · have hi2 : i = S.length := by
      have := (List.getElem?_eq_some_iff.1 hb).1
      simp at this
      omega
    subst hi2
    rw [List.getElem?_append_right (by rw [h.len]; exact Nat.le_refl _), h.len, Nat.sub_self] at ha
    rw [List.getElem?_append_right (Nat.le_refl _), Nat.sub_self] at hb
    cases ha
    cases hb
    exact ht.grown hg (fun k e => .inl e) (xr_on hr)
/-- A cell of a state is turned: whether a word ends (1), its edges (2). -/
theorem StRow.set_ {w : World} {base g n cap : Nat} {S : List (StD Int)} {T : List StV} {R : Nat → Prop} (h : StRow w base (.slice (some ⟨g, 0, none⟩) n cap) S T R) {i : Nat} {t t' : StV} {s s' : StD Int} (ht : T[i]? = some t) (hs : S[i]? = some s) (j : Nat) (u : Value) (hj : j < 3) (hu : stv t' = (stv t).set j u)
    (hx : StX w t' s' (XR (.slice (some ⟨g, 0, none⟩) n cap) R)) : StRow (w.setCell ⟨g, i * 3 + j, none⟩ u) base (.slice (some ⟨g, 0, none⟩) n cap) (S.set i s') (T.set i t') R := by
  have hi := (List.getElem?_eq_some_iff.1 hs).1
  have hn : n = S.length := by
    rcases h.own.2 with ⟨e, _⟩ | ⟨g', cap', cur, e, _⟩
    · cases e
    · cases e; rfl
  subst hn
  have hg := z_grown_set w g (i * 3 + j) u
  have ho := z_own_set h.own (i * 3 + j) (by omega) u
  rw [z_gset stv_ln T i j t t' u ht hj hu] at ho
  refine ⟨by rw [List.length_set, List.length_set, h.len], by rw [List.length_set]; exact ho, fun k a b ha hb => ?_⟩
  by_cases hk : k = i
  · subst hk
    rw [List.getElem?_set_self (by rw [h.len]; exact hi)] at ha
    rw [List.getElem?_set_self hi] at hb
    cases ha
    cases hb
    exact hx.grown hg (fun k e => .inl e) (XOn.refl _ _)
  · rw [List.getElem?_set_ne (fun e => hk e.symm)] at ha hb
    exact (h.each k a b ha hb).grown hg (fun k e => .inl e) (XOn.refl _ _)
/-- A state's three cells. -/
theorem StRow.at_ {w : World} {base n : Nat} {v : Value} {S : List (StD Int)} {T : List StV} {R : Nat → Prop} (h : StRow w base v S T R) (hn : S.length = n) {i : Nat} {s : StD Int} (hs : S[i]? = some s) :
    ∃ g cap t, v = .slice (some ⟨g, 0, none⟩) n cap ∧ base ≤ g ∧ g < w.heap.size ∧ T[i]? = some t ∧ StX w t s (XR v R) ∧ w.cell? ⟨g, i * 3, none⟩ = some (slv t.1) ∧ w.cell? ⟨g, i * 3 + 1, none⟩ = some (.bool t.2.1) ∧ w.cell? ⟨g, i * 3 + 2, none⟩ = some (slv t.2.2) := by
  have hi := (List.getElem?_eq_some_iff.1 hs).1
  obtain ⟨g, cap, e, hbg, hlt, _⟩ := z_own_form h.own (by omega)
  obtain ⟨t, ht⟩ : ∃ t, T[i]? = some t := ⟨_, List.getElem?_eq_getElem (by rw [h.len]; exact hi)⟩
  have hx := h.each i t s ht hs
  have ho := h.own
  rw [hn] at e
  rw [hn, e] at ho
  exact ⟨g, cap, t, e, hbg, hlt, ht, hx, z_own_at stv_ln ho ht (i := 0) rfl, z_own_at stv_ln ho ht (i := 1) rfl, z_own_at stv_ln ho ht (i := 2) rfl⟩
theorem StRow.thaw {w : World} {base g n cap : Nat} {S : List (StD Int)} {T : List StV} {R : Nat → Prop} (h : StRow w base (.slice (some ⟨g, 0, none⟩) n cap) S T R) (j : Nat) : w.frozen? ⟨g, j, none⟩ = false := by
  rcases h.own.2 with ⟨h0, _⟩ | ⟨g', cap', cur, e1, hb, hg, h1, h2, h3, h4⟩
  · cases h0
  · simp only [Value.slice.injEq, Option.some.injEq, Addr.mk.injEq] at e1
    obtain ⟨⟨rfl, _⟩, _, rfl⟩ := e1
    simp [World.frozen?, hg]
end Go.Proofs.YtljaibhhkjapmaaDoor
