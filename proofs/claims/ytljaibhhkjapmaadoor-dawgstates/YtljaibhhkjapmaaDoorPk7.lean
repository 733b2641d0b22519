/- Texts that several proofs of this seat share, one behind the other: ZBld ZLay ZRev. -/
import Derived.Test.YtljaibhhkjapmaaDoorPk6
import Derived.StillTailTactics
import Derived.BigRegion
import Derived.Deep.RegionHeld3
import Derived.Deep.RegionHeldLaw
import Derived.Deep.RegionLaw
import Derived.Shelf.SlicesQ.Reverse
import Derived.Shelf.SlGeneric
/- The builder as it lies: its box, the way's row, the frozen states' row, the map; what a call of its own keeps. -/
namespace Go.Proofs.YtljaibhhkjapmaaDoor
open Go.RowKit Go.Shelf
set_option linter.unusedSimpArgs false
set_option linter.unusedVariables false

theorem z_set_cells {w : World} {B : Nat} {cs : Array Value} {ty : TypeId} (h : w.heap[B]? = some (.cells cs ty)) (j : Nat) (u : Value) : (w.setCell ⟨B, j, none⟩ u).heap[B]? = some (.cells (cs.setIfInBounds j u) ty) :=
  heap_setCell_same w B j cs ty u h
theorem z_grown_set (w : World) (g j : Nat) (u : Value) : w.grownBy (w.setCell ⟨g, j, none⟩ u) (some g) :=
  ⟨rfl, rfl, rfl, by simp [World.setCell], fun k _ hne => Below.heap_setCell w _ u k (fun e => hne (by rw [e]))⟩
theorem z_own_set {w : World} {base : Nat} {e : TypeId} {size g cap n : Nat} {xs : List Value} (h : w.ownsRow base e size (.slice (some ⟨g, 0, none⟩) n cap) n xs) (j : Nat) (hj : j < n * size) (u : Value) :
    (w.setCell ⟨g, j, none⟩ u).ownsRow base e size (.slice (some ⟨g, 0, none⟩) n cap) n (xs.set j u) := own_store h j hj u
/-- A row's front. -/
theorem z_own_front {w : World} {base : Nat} {e : TypeId} {size g cap n : Nat} {xs : List Value} (h : w.ownsRow base e size (.slice (some ⟨g, 0, none⟩) n cap) n xs) (m : Nat) (hm : m ≤ n) : w.ownsRow base e size (.slice (some ⟨g, 0, none⟩) m cap) m (xs.take (m * size)) := by
  obtain ⟨hl, hv⟩ := h
  rcases hv with ⟨h0, _⟩ | ⟨g', cap', cur, e1, hb, hg, h1, h2, h3, h4⟩
  · cases h0
  · simp only [Value.slice.injEq, Option.some.injEq, Addr.mk.injEq] at e1
    obtain ⟨⟨rfl, _⟩, _, rfl⟩ := e1
    have hms : m * size ≤ n * size := Nat.mul_le_mul_right _ hm
    refine ⟨by rw [List.length_take, hl]; omega, .inr ⟨g, cap, cur, rfl, hb, hg, by omega, h2, h3, ?_⟩⟩
    rw [← h4, List.take_take, Nat.min_eq_left hms]
theorem z_gtake {α : Type} {enc : α → List Value} {k : Nat} (hk : ∀ x, (enc x).length = k) (l : List α) (m : Nat) (hm : m ≤ l.length) : (gCells enc l).take (m * k) = gCells enc (l.take m) := by
  conv => lhs; rw [← List.take_append_drop m l]
  rw [gCells_append, List.take_left' (by rw [gCells_len hk, List.length_take, Nat.min_eq_left hm])]
/-- One cell of an element that is turned. -/
theorem z_gset {α : Type} {enc : α → List Value} {k : Nat} (hk : ∀ x, (enc x).length = k) (l : List α) (j i : Nat) (x y : α) (u : Value) (hj : l[j]? = some x) (hi : i < k) (hy : enc y = (enc x).set i u) : (gCells enc l).set (j * k + i) u = gCells enc (l.set j y) := by
  have hjl := (List.getElem?_eq_some_iff.1 hj).1
  have e1 : l = l.take j ++ x :: l.drop (j + 1) := by
    conv => lhs; rw [← List.take_append_drop j l]
    rw [List.drop_eq_getElem_cons hjl, (List.getElem_eq_iff _).2 hj]
  have hlt : (gCells enc (l.take j)).length = j * k := by rw [gCells_len hk, List.length_take, Nat.min_eq_left (by omega)]
  have hs : l.set j y = l.take j ++ y :: l.drop (j + 1) := by
    conv => lhs; rw [e1]
    rw [List.set_append_right _ _ (by rw [List.length_take]; omega), List.length_take, Nat.min_eq_left (by omega), Nat.sub_self]
    rfl
  rw [hs]
  conv => lhs; rw [e1]
  rw [gCells_append, gCells_append]
  show (gCells enc (l.take j) ++ (enc x ++ gCells enc (l.drop (j + 1)))).set (j * k + i) u = gCells enc (l.take j) ++ (enc y ++ gCells enc (l.drop (j + 1)))
  rw [List.set_append_right _ _ (by rw [hlt]; omega), hlt, show j * k + i - j * k = i by omega, List.set_append_left _ _ (by rw [hk]; exact hi), hy]
theorem z_own_below {w w' : World} {base : Nat} {e : TypeId} {size n : Nat} {v : Value} {xs : List Value} (h : w.ownsRow base e size v n xs) (hb : Below w.heap.size w w') : w'.ownsRow base e size v n xs := h.kept (grown_none hb) (by cases v.ownBlock <;> simp)

/-- The builder, as it lies at q: its map at m. -/
structure Bld (w : World) (q m n0 k : Nat) (D : DataW Unit) (W : List (Nat × Int)) (F : List Fz) (vw vf : Value) : Prop where
  q0 : n0 ≤ q
  m0 : n0 ≤ m
  box : w.heap[q]? = some (.cells #[vw, vf, .map (some m)] 145)
  way : OpOwn w n0 vw W
  frz : FzOwn w n0 vf F
  known : TlMap w m k D
theorem Bld.lt {w : World} {q m n0 k : Nat} {D : DataW Unit} {W : List (Nat × Int)} {F : List Fz} {vw vf : Value} (h : Bld w q m n0 k D W F vw vf) : q < w.heap.size ∧ m < w.heap.size ∧ n0 ≤ w.heap.size :=
  ⟨(Array.getElem?_eq_some_iff.1 h.box).1, h.known.lt, by have := (Array.getElem?_eq_some_iff.1 h.box).1; have := h.q0; omega⟩
/-- Rows, box and map are blocks apart. -/
theorem Bld.apart {w : World} {q m n0 k : Nat} {D : DataW Unit} {W : List (Nat × Int)} {F : List Fz} {vw vf : Value} (h : Bld w q m n0 k D W F vw vf) :
    vw.ownBlock ≠ some q ∧ vf.ownBlock ≠ some q ∧ vw.ownBlock ≠ some m ∧ vf.ownBlock ≠ some m ∧ (vw.ownBlock = none ∨ vw.ownBlock ≠ vf.ownBlock) ∧ (vf.ownBlock = none ∨ vf.ownBlock ≠ vw.ownBlock) ∧ q ≠ m := by
  have hb := h.box
  obtain ⟨es, ck, hm, _⟩ := h.known
  refine ⟨fun e => ?_, fun e => ?_, fun e => ?_, fun e => ?_, own_apart h.way h.frz (by decide), own_apart h.frz h.way (by decide), fun e => ?_⟩
  · rcases h.way.2 with ⟨rfl, _⟩ | ⟨g, cap, cur, rfl, _, hg, _⟩
    · cases e
    · have e2 : g = q := by simpa [Value.ownBlock] using e
      rw [e2, hb] at hg
      simp at hg
  · rcases h.frz.2 with ⟨rfl, _⟩ | ⟨g, cap, cur, rfl, _, hg, _⟩
    · cases e
    · have e2 : g = q := by simpa [Value.ownBlock] using e
      rw [e2, hb] at hg
      simp at hg
  · rcases h.way.2 with ⟨rfl, _⟩ | ⟨g, cap, cur, rfl, _, hg, _⟩
    · cases e
    · have e2 : g = m := by simpa [Value.ownBlock] using e
      rw [e2, hm] at hg
      simp at hg
  · rcases h.frz.2 with ⟨rfl, _⟩ | ⟨g, cap, cur, rfl, _, hg, _⟩
    · cases e
    · have e2 : g = m := by simpa [Value.ownBlock] using e
      rw [e2, hm] at hg
      simp at hg
  · rw [e, hm] at hb
    simp at hb
/-- Where no block of the builder's is turned. -/
theorem Bld.kept {w w' : World} {q m n0 k : Nat} {D : DataW Unit} {W : List (Nat × Int)} {F : List Fz} {vw vf : Value} {row : Option Nat} (h : Bld w q m n0 k D W F vw vf) (hg : w.grownBy w' row) (h1 : some q ≠ row) (h2 : some m ≠ row) (h3 : vw.ownBlock = none ∨ vw.ownBlock ≠ row) (h4 : vf.ownBlock = none ∨ vf.ownBlock ≠ row) : Bld w' q m n0 k D W F vw vf :=
  ⟨h.q0, h.m0, (hg.block q h.lt.1 h1).trans h.box, h.way.kept hg h3, h.frz.kept hg h4, h.known.kept hg h2⟩
theorem Bld.below {w w' : World} {q m n0 k : Nat} {D : DataW Unit} {W : List (Nat × Int)} {F : List Fz} {vw vf : Value} (h : Bld w q m n0 k D W F vw vf) (hb : Below w.heap.size w w') : Bld w' q m n0 k D W F vw vf :=
  h.kept (grown_none hb) (by simp) (by simp) (by cases vw.ownBlock <;> simp) (by cases vf.ownBlock <;> simp)
theorem Bld.cells {w : World} {q m n0 k : Nat} {D : DataW Unit} {W : List (Nat × Int)} {F : List Fz} {vw vf : Value} (h : Bld w q m n0 k D W F vw vf) :
    w.cell? ⟨q, 0, none⟩ = some vw ∧ w.cell? ⟨q, 1, none⟩ = some vf ∧ w.cell? ⟨q, 2, none⟩ = some (.map (some m)) ∧ ∀ j, w.frozen? ⟨q, j, none⟩ = false := by
  refine ⟨?_, ?_, ?_, fun j => ?_⟩
  · rw [cell_of_row _ _ _ _ _ (0, 0) h.box]; rfl
  · rw [cell_of_row _ _ _ _ _ (0, 0) h.box]; rfl
  · rw [cell_of_row _ _ _ _ _ (0, 0) h.box]; rfl
  · simp [World.frozen?, h.box]
/-- What a call of the builder's keeps: all below n0; above, all but the builder's own blocks. -/
structure BFr (q m n0 : Nat) (W W' : World) : Prop where
  bel : Below n0 W W'
  keep : ∀ (k : Nat) (o : Obj), n0 ≤ k → W.heap[k]? = some o → k ≠ q → k ≠ m → (∀ cs t fz, o = .cells cs t fz → t ≠ 136 ∧ t ≠ 141) → W'.heap[k]? = some o
theorem BFr.refl (q m n0 : Nat) (W : World) : BFr q m n0 W W := ⟨Below.refl _ _, fun _ _ _ h _ _ _ => h⟩
theorem BFr.trans {q m n0 : Nat} {A B C : World} (h : BFr q m n0 A B) (k : BFr q m n0 B C) : BFr q m n0 A C :=
  ⟨h.bel.trans k.bel, fun i o h1 h2 h3 h4 h5 => k.keep i o h1 (h.keep i o h1 h2 h3 h4 h5) h3 h4 h5⟩
theorem BFr.of_below {q m n0 : Nat} {A B : World} (h : Below A.heap.size A B) (hn : n0 ≤ A.heap.size) : BFr q m n0 A B :=
  ⟨h.mono hn, fun i o _ hi _ _ _ => (h.block i (Array.getElem?_eq_some_iff.1 hi).1).trans hi⟩
theorem BFr.of_grown {q m n0 r : Nat} {A B : World} (h : A.grownBy B (some r)) (hn : n0 ≤ A.heap.size) (hr : n0 ≤ r) (ho : r = q ∨ r = m ∨ A.heap.size ≤ r ∨ ∃ cs t fz, A.heap[r]? = some (.cells cs t fz) ∧ (t = 136 ∨ t = 141)) : BFr q m n0 A B :=
  ⟨(Below.refl n0 A).grown h hn (fun k e => by cases e; exact hr), fun i o h1 hi h3 h4 h5 => (h.block i (Array.getElem?_eq_some_iff.1 hi).1 (fun e => by
    have e := Option.some.inj e
    subst e
    have hil := (Array.getElem?_eq_some_iff.1 hi).1
    rcases ho with e | e | e | ⟨cs, t, fz, e, e2⟩
    · exact h3 e
    · exact h4 e
    · omega
    · rw [hi] at e
      obtain ⟨k1, k2⟩ := h5 cs t fz (Option.some.inj e)
      rcases e2 with e2 | e2
      · exact k1 e2
      · exact k2 e2)).trans hi⟩
theorem z_own_form {w : World} {base : Nat} {e : TypeId} {size n : Nat} {v : Value} {xs : List Value} (h : w.ownsRow base e size v n xs) (hn : 0 < n) : ∃ g cap, v = .slice (some ⟨g, 0, none⟩) n cap ∧ base ≤ g ∧ g < w.heap.size ∧ n ≤ cap ∧ cap ≤ maxLen ∧ ∃ cur, w.heap[g]? = some (.cells cur e (0, 0)) := by
  rcases h.2 with ⟨_, h0⟩ | ⟨g, cap, cur, rfl, hb, hg, h1, h2, h3, h4⟩
  · omega
  · exact ⟨g, cap, rfl, hb, (Array.getElem?_eq_some_iff.1 hg).1, h1, h2, cur, hg⟩
theorem z_own_slice {w : World} {base : Nat} {e : TypeId} {size n : Nat} {v : Value} {xs : List Value} (h : w.ownsRow base e size v n xs) : ∃ A cap, v = .slice A n cap := by
  rcases h.2 with ⟨rfl, rfl⟩ | ⟨g, cap, cur, rfl, _⟩
  · exact ⟨_, _, rfl⟩
  · exact ⟨_, _, rfl⟩
/-- A cell of an element. -/
theorem z_own_at {α : Type} {enc : α → List Value} {k : Nat} (hk : ∀ x, (enc x).length = k) {w : World} {base : Nat} {e : TypeId} {g cap n : Nat} {l : List α} (h : w.ownsRow base e k (.slice (some ⟨g, 0, none⟩) n cap) n (gCells enc l)) {j i : Nat} {x : α} {u : Value} (hj : l[j]? = some x) (hi : (enc x)[i]? = some u) : w.cell? ⟨g, j * k + i, none⟩ = some u := by
  have hik : i < k := by have := (List.getElem?_eq_some_iff.1 hi).1; rwa [hk] at this
  have hjl := (List.getElem?_eq_some_iff.1 hj).1
  have hn : l.length * k = n * k := by have := h.1; rwa [gCells_len hk] at this
  have h3 := gCells_at hk l j i x hj hik
  rw [hi] at h3
  have hlt : j * k + i < n * k := by
    rw [← hn]
    have := Nat.mul_le_mul_right k (show j + 1 ≤ l.length from hjl)
    rw [Nat.succ_mul] at this
    omega
  rcases h.2 with ⟨h0, _⟩ | ⟨g', cap', cur, e1, hb, hg, h1, h2, h4, h5⟩
  · cases h0
  · simp only [Value.slice.injEq, Option.some.injEq, Addr.mk.injEq] at e1
    obtain ⟨⟨rfl, _⟩, _, rfl⟩ := e1
    rw [cell_of_row w g (j * k + i) cur e (0, 0) hg]
    rw [← h5, List.getElem?_take, if_pos hlt] at h3
    simpa using h3
/-- A field of the builder's that is turned. -/
theorem Bld.setWay {w : World} {q m n0 k : Nat} {D : DataW Unit} {W W2 : List (Nat × Int)} {F : List Fz} {vw vf v2 : Value} (h : Bld w q m n0 k D W F vw vf) (hw : OpOwn w n0 v2 W2) : Bld (w.setCell ⟨q, 0, none⟩ v2) q m n0 k D W2 F v2 vf := by
  have h2 : Bld w q m n0 k D W F vw vf := h
  obtain ⟨a1, a2, a3, a4, a5, a6, a7⟩ := h.apart
  have hv2 : v2.ownBlock ≠ some q := fun e => by
    rcases hw.2 with ⟨rfl, _⟩ | ⟨g, cap, cur, rfl, _, hg, _⟩
    · cases e
    · have e2 : g = q := by simpa [Value.ownBlock] using e
      rw [e2, h.box] at hg
      simp at hg
  have hg := z_grown_set w q 0 v2
  exact ⟨h.q0, h.m0, z_set_cells h.box 0 v2, hw.kept hg (.inr hv2), h.frz.kept hg (.inr a2), h.known.kept hg (fun e => a7 (by cases e; rfl))⟩
theorem Bld.setFrz {w : World} {q m n0 k : Nat} {D : DataW Unit} {W : List (Nat × Int)} {F F2 : List Fz} {vw vf v2 : Value} (h : Bld w q m n0 k D W F vw vf) (hw : FzOwn w n0 v2 F2) : Bld (w.setCell ⟨q, 1, none⟩ v2) q m n0 k D W F2 vw v2 := by
  obtain ⟨a1, a2, a3, a4, a5, a6, a7⟩ := h.apart
  have hv2 : v2.ownBlock ≠ some q := fun e => by
    rcases hw.2 with ⟨rfl, _⟩ | ⟨g, cap, cur, rfl, _, hg, _⟩
    · cases e
    · have e2 : g = q := by simpa [Value.ownBlock] using e
      rw [e2, h.box] at hg
      simp at hg
  have hg := z_grown_set w q 1 v2
  exact ⟨h.q0, h.m0, z_set_cells h.box 1 v2, h.way.kept hg (.inr a1), hw.kept hg (.inr hv2), h.known.kept hg (fun e => a7 (by cases e; rfl))⟩
theorem Bld.frSet {w : World} {q m n0 k : Nat} {D : DataW Unit} {W : List (Nat × Int)} {F : List Fz} {vw vf : Value} (h : Bld w q m n0 k D W F vw vf) (j : Nat) (u : Value) : BFr q m n0 w (w.setCell ⟨q, j, none⟩ u) :=
  BFr.of_grown (z_grown_set w q j u) h.lt.2.2 h.q0 (.inl rfl)
/-- An open state whose number is turned, or whose rune is. -/
theorem Bld.setOp {w : World} {q m n0 k : Nat} {D : DataW Unit} {W : List (Nat × Int)} {F : List Fz} {vf : Value} {g n cap : Nat} (h : Bld w q m n0 k D W F (.slice (some ⟨g, 0, none⟩) n cap) vf) {j i : Nat} {x y : Nat × Int} {u : Value} (hj : W[j]? = some x) (hi : i < 2) (hy : opCell y = (opCell x).set i u) :
    Bld (w.setCell ⟨g, j * 2 + i, none⟩ u) q m n0 k D (W.set j y) F (.slice (some ⟨g, 0, none⟩) n cap) vf ∧ BFr q m n0 w (w.setCell ⟨g, j * 2 + i, none⟩ u) := by
  obtain ⟨a1, a2, a3, a4, a5, a6, a7⟩ := h.apart
  have hjl := (List.getElem?_eq_some_iff.1 hj).1
  have hw := h.way
  have hn : n = W.length := by
    rcases hw.2 with ⟨h0, _⟩ | ⟨g', cap', cur, e1, _⟩
    · cases h0
    · simp only [Value.slice.injEq, Option.some.injEq, Addr.mk.injEq] at e1
      exact e1.2.1
  subst hn
  have hg := z_grown_set w g (j * 2 + i) u
  have hw2 := z_own_set hw (j * 2 + i) (by omega) u
  rw [z_gset op_ln W j i x y u hj hi hy] at hw2
  obtain ⟨g1, cap1, e1, hb1, hl1, _, _, cur, hc⟩ := z_own_form hw (by omega)
  simp only [Value.slice.injEq, Option.some.injEq, Addr.mk.injEq] at e1
  obtain ⟨⟨rfl, _⟩, _, _⟩ := e1
  refine ⟨⟨h.q0, h.m0, (hg.block q h.lt.1 (fun e => a1 e.symm)).trans h.box, by unfold OpOwn; rw [List.length_set]; exact hw2, h.frz.kept hg (by rcases a6 with a6 | a6; exact .inl a6; exact .inr a6), h.known.kept hg (fun e => a3 e.symm)⟩, BFr.of_grown hg h.lt.2.2 hb1 (.inr (.inr (.inr ⟨cur, _, _, hc, .inl rfl⟩)))⟩
/-- How one region ends, where it has but one end. -/
def ZOnly (F : Act) (W : World) : Exit → Act → World → Prop
  | .normal, a, w => a = F ∧ w = W
  | _, _, _ => False
theorem z_region_at {P : Program} {id : Nat} {ops : Array Oper} {b : Bool} {Q : Exit → Act → World → Prop} {a : Act} {w : World} (F : Act) (W : World)
    (h1 : (Code.region id ops b).wp P (ZOnly F W) a w) (h2 : Q .normal F W) : (Code.region id ops b).wp P Q a w :=
  Code.wp_mono (fun e a w h => by
    cases e
    case normal => obtain ⟨rfl, rfl⟩ := h; exact h2
    all_goals exact (h : False).elim) h1
theorem BFr.of_row {q m n0 : Nat} {A B : World} {base : Nat} {t : TypeId} {size n : Nat} {v : Value} {xs : List Value} (h : A.grownBy B v.ownBlock) (hn : n0 ≤ A.heap.size) (hv : A.ownsRow n0 t size v n xs) (ht : t = 136 ∨ t = 141) : BFr q m n0 A B := by
  rcases hv.2 with ⟨rfl, _⟩ | ⟨g, cap, cur, rfl, hb, hg, _⟩
  · exact BFr.of_below ⟨h.os, h.tape, h.output, h.size, fun k hk => h.block k hk (by simp [Value.ownBlock])⟩ hn
  · exact BFr.of_grown h hn hb (.inr (.inr (.inr ⟨cur, t, _, hg, ht⟩)))
/-- A state more among the frozen ones: the row has grown, the field is stored. -/
theorem Bld.pushFrz {w w5 : World} {q m n0 k : Nat} {D : DataW Unit} {W : List (Nat × Int)} {F F2 : List Fz} {vw vf v' : Value} (h : Bld w q m n0 k D W F vw vf) (o : Obj) (hg : (w.alloc o).grownBy w5 vf.ownBlock) (hw : FzOwn w5 n0 v' F2) :
    Bld (w5.setCell ⟨q, 1, none⟩ v') q m n0 k D W F2 vw v' ∧ BFr q m n0 w (w5.setCell ⟨q, 1, none⟩ v') := by
  have h1 := h.below (bel_one w o)
  obtain ⟨a1, a2, a3, a4, a5, a6, a7⟩ := h1.apart
  have hbx : w5.heap[q]? = some (.cells #[vw, vf, .map (some m)] 145) := (hg.block q h1.lt.1 (fun e => a2 e.symm)).trans h1.box
  have hkn := h1.known.kept hg (fun e => a4 e.symm)
  have hwy := h1.way.kept hg a5
  have hv2 : v'.ownBlock ≠ some q := fun e => by
    rcases hw.2 with ⟨rfl, _⟩ | ⟨g, cap, cur, rfl, _, hg, _⟩
    · cases e
    · have e2 : g = q := by simpa [Value.ownBlock] using e
      rw [e2, hbx] at hg
      simp at hg
  have hs := z_grown_set w5 q 1 v'
  refine ⟨⟨h.q0, h.m0, z_set_cells hbx 1 v', hwy.kept hs (.inr a1), hw.kept hs (.inr hv2), hkn.kept hs (fun e => a7 (by cases e; rfl))⟩, ?_⟩
  have b1 : BFr q m n0 w (w.alloc o) := BFr.of_below (bel_one w o) h.lt.2.2
  have b2 : BFr q m n0 (w.alloc o) w5 := BFr.of_row (base := n0) hg h1.lt.2.2 h1.frz (.inr rfl)
  exact (b1.trans b2).trans (BFr.of_grown hs (by have := hg.size; have := h1.lt.2.2; omega) h.q0 (.inl rfl))
/-- An open state more. -/
theorem Bld.pushWay {w w5 : World} {q m n0 k : Nat} {D : DataW Unit} {W W2 : List (Nat × Int)} {F : List Fz} {vw vf v' : Value} (h : Bld w q m n0 k D W F vw vf) (o : Obj) (hg : (w.alloc o).grownBy w5 vw.ownBlock) (hw : OpOwn w5 n0 v' W2) :
    Bld (w5.setCell ⟨q, 0, none⟩ v') q m n0 k D W2 F v' vf ∧ BFr q m n0 w (w5.setCell ⟨q, 0, none⟩ v') := by
  have h1 := h.below (bel_one w o)
  obtain ⟨a1, a2, a3, a4, a5, a6, a7⟩ := h1.apart
  have hbx : w5.heap[q]? = some (.cells #[vw, vf, .map (some m)] 145) := (hg.block q h1.lt.1 (fun e => a1 e.symm)).trans h1.box
  have hkn := h1.known.kept hg (fun e => a3 e.symm)
  have hfz := h1.frz.kept hg a6
  have hv2 : v'.ownBlock ≠ some q := fun e => by
    rcases hw.2 with ⟨rfl, _⟩ | ⟨g, cap, cur, rfl, _, hg, _⟩
    · cases e
    · have e2 : g = q := by simpa [Value.ownBlock] using e
      rw [e2, hbx] at hg
      simp at hg
  have hs := z_grown_set w5 q 0 v'
  refine ⟨⟨h.q0, h.m0, z_set_cells hbx 0 v', hw.kept hs (.inr hv2), hfz.kept hs (.inr a2), hkn.kept hs (fun e => a7 (by cases e; rfl))⟩, ?_⟩
  have b1 : BFr q m n0 w (w.alloc o) := BFr.of_below (bel_one w o) h.lt.2.2
  have b2 : BFr q m n0 (w.alloc o) w5 := BFr.of_row (base := n0) hg h1.lt.2.2 h1.way (.inl rfl)
  exact (b1.trans b2).trans (BFr.of_grown hs (by have := hg.size; have := h1.lt.2.2; omega) h.q0 (.inl rfl))
end Go.Proofs.YtljaibhhkjapmaaDoor

/- builder.lay: a new frozen state. -/
namespace Go.Proofs.YtljaibhhkjapmaaDoor
open Go.RowKit Go.Shelf
attribute [local go_sem] Oper.semAt_some
set_option linter.unusedSimpArgs false
set_option linter.unusedVariables false

theorem fz_cells {w : World} {n0 g cap N : Nat} {F : List Fz} (h : w.ownsRow n0 141 5 (.slice (some ⟨g, 0, none⟩) N cap) N (gCells fzCell F)) {j : Nat} {f : Fz} (hj : F[j]? = some f) :
    w.cell? ⟨g, j * 5, none⟩ = some (.int .i32 (f.1.1 : Int)) ∧ w.cell? ⟨g, j * 5 + 1, none⟩ = some (.int .i32 f.1.2.1) ∧ w.cell? ⟨g, j * 5 + 2, none⟩ = some (.int .i32 (f.1.2.2 : Int)) ∧ w.cell? ⟨g, j * 5 + 3, none⟩ = some (.int .i32 (f.2.1 : Int)) ∧ w.cell? ⟨g, j * 5 + 4, none⟩ = some (.bool f.2.2) :=
  ⟨z_own_at fz_ln h hj (i := 0) rfl, z_own_at fz_ln h hj (i := 1) rfl, z_own_at fz_ln h hj (i := 2) rfl, z_own_at fz_ln h hj (i := 3) rfl, z_own_at fz_ln h hj (i := 4) rfl⟩

theorem z_cell_set_ne (w : World) (g j : Nat) (u : Value) (b o : Nat) (h : b ≠ g) : (w.setCell ⟨g, j, none⟩ u).cell? ⟨b, o, none⟩ = w.cell? ⟨b, o, none⟩ := World.cell?_of_block (Below.heap_setCell _ _ _ b h)
theorem z_two_first (w : World) (cs cs' : Array Value) (t t' : TypeId) (j : Nat) : ((w.alloc (.cells cs t)).alloc (.cells cs' t')).drew.cell? ⟨w.heap.size, j, none⟩ = cs[j]? := by
  show ((w.alloc (.cells cs t)).alloc (.cells cs' t')).cell? ⟨w.heap.size, j, none⟩ = cs[j]?
  exact cell_of_row _ _ _ _ _ (0, 0) ((Below.heap_alloc _ _ _ (by simp)).trans (heap_alloc_new w (.cells cs t)))
theorem z_two_second (w : World) (cs cs' : Array Value) (t t' : TypeId) (j : Nat) : ((w.alloc (.cells cs t)).alloc (.cells cs' t')).drew.cell? ⟨w.heap.size + 1, j, none⟩ = cs'[j]? := by
  show ((w.alloc (.cells cs t)).alloc (.cells cs' t')).cell? ⟨w.heap.size + 1, j, none⟩ = cs'[j]?
  have h := heap_alloc_new (w.alloc (.cells cs t)) (.cells cs' t')
  rw [World.size_alloc] at h
  exact cell_of_row _ _ _ _ _ (0, 0) h

set_option maxRecDepth 100000 in
set_option maxHeartbeats 8000000 in
theorem lay_any (q m n0 k : Nat) (D : DataW Unit) (W : List (Nat × Int)) (F : List Fz) (vw vf : Value) (w : World) (hB : Bld w q m n0 k D W F vw vf) (b t : Nat) (r : Int) (fb ft : Fz) (hfb : F[b]? = some fb) (hft : F[t]? = some ft) (hs : fb.2.1 + ft.2.1 ≤ 2000000) (hF : F.length ≤ 5000000) :
    Calls Tryd.prog 99 #[.pointer (some ⟨q, 0, none⟩), .agg #[.int .i32 (b : Int), .int .i32 r, .int .i32 (t : Int)]] w fun e w' => e = .returned (.int .i32 (F.length : Int)) ∧
      (∃ vf', Bld w' q m n0 k D W (F ++ [((b, r, t), fb.2.1 + ft.2.1, fb.2.2)]) vw vf') ∧ BFr q m n0 w w' := by
  obtain ⟨⟨x1, x2, x3⟩, x4, x5⟩ := fb
  obtain ⟨⟨y1, y2, y3⟩, y4, y5⟩ := ft
  simp only at hs ⊢
  have hbl := (List.getElem?_eq_some_iff.1 hfb).1
  have htl := (List.getElem?_eq_some_iff.1 hft).1
  obtain ⟨g, cap, evf, hg1, hg2, hg3, hg4, _⟩ := z_own_form hB.frz (by omega)
  subst evf
  have hfr := hB.frz
  unfold FzOwn at hfr
  obtain ⟨N, hN⟩ : ∃ z, F.length = z := ⟨_, rfl⟩
  rw [hN] at hB hfr hbl htl hF hg3 ⊢
  have hal := bel_one w (.cells #[.int .i32 (b : Int), .int .i32 r, .int .i32 (t : Int)] 139)
  have hB1 := hB.below hal
  have hfr1 := z_own_below hfr hal
  have e0 := heap_alloc_new w (.cells #[.int .i32 (b : Int), .int .i32 r, .int .i32 (t : Int)] 139)
  obtain ⟨w1, hw1⟩ : ∃ z, w.alloc (.cells #[.int .i32 (b : Int), .int .i32 r, .int .i32 (t : Int)] 139) = z := ⟨_, rfl⟩
  obtain ⟨p, hp⟩ : ∃ z, w.heap.size = z := ⟨_, rfl⟩
  rw [hw1] at hal hB1 hfr1 e0
  rw [hp] at e0
  have t0 : w1.cell? ⟨p, 0, none⟩ = some (.int .i32 (b : Int)) := by rw [cell_of_row _ _ _ _ _ (0, 0) e0]; rfl
  have t1 : w1.cell? ⟨p, 1, none⟩ = some (.int .i32 r) := by rw [cell_of_row _ _ _ _ _ (0, 0) e0]; rfl
  have t2 : w1.cell? ⟨p, 2, none⟩ = some (.int .i32 (t : Int)) := by rw [cell_of_row _ _ _ _ _ (0, 0) e0]; rfl
  have c1 := hB1.cells.2.1
  obtain ⟨b0, b1, b2, b3, b4⟩ := fz_cells hfr1 hfb
  obtain ⟨d0, d1, d2, d3, d4⟩ := fz_cells hfr1 hft
  simp only at b0 b1 b2 b3 b4 d0 d1 d2 d3 d4
  obtain ⟨s4, hs4⟩ : ∃ z, x4 + y4 = z := ⟨_, rfl⟩
  rw [hs4] at hs ⊢
  have hw4 : IntKind.i32.wrap ((x4 : Int) + (y4 : Int)) = (s4 : Int) := by rw [IntKind.wrap_i32]; omega
  have hwn : IntKind.i64.wrap (N : Int) = (N : Int) := by rw [IntKind.wrap_i64]; omega
  have hwm : IntKind.i32.wrap (N : Int) = (N : Int) := by rw [IntKind.wrap_i32]; omega
  have i1 : (b : Int) < (N : Int) := by omega
  have i2 : (t : Int) < (N : Int) := by omega
  have HB := Lib.hid hB; have HB1 := Lib.hid hB1; have HFR := Lib.hid hfr1; have HN := Lib.hid hN; have HW1 := Lib.hid hw1; have HP := Lib.hid hp; have HAL := Lib.hid hal; have HE0 := Lib.hid e0
  have HFB := Lib.hid hfb; have HFT := Lib.hid hft
  clear hB hfr hB1 hfr1 hN hw1 hp hal e0 hfb hft
  go_enter Tryd.func99, Tryd.ntmps99
  go_wp2
  rw [HW1.out, HP.out]
  go_region_held3 (fun wx => wx.cell? ⟨p, 0, none⟩ = some (.int .i32 (b : Int)) ∧ wx.cell? ⟨p, 1, none⟩ = some (.int .i32 r) ∧ wx.cell? ⟨p, 2, none⟩ = some (.int .i32 (t : Int)) ∧ wx.cell? ⟨q, 1, none⟩ = some (.slice (some ⟨g, 0, none⟩) N cap) ∧ wx.cell? ⟨g, b * 5, none⟩ = some (.int .i32 (x1 : Int)) ∧ wx.cell? ⟨g, b * 5 + 1, none⟩ = some (.int .i32 x2) ∧ wx.cell? ⟨g, b * 5 + 2, none⟩ = some (.int .i32 (x3 : Int)) ∧ wx.cell? ⟨g, b * 5 + 3, none⟩ = some (.int .i32 (x4 : Int)) ∧ wx.cell? ⟨g, b * 5 + 4, none⟩ = some (.bool x5) ∧ wx.cell? ⟨g, t * 5, none⟩ = some (.int .i32 (y1 : Int)) ∧ wx.cell? ⟨g, t * 5 + 1, none⟩ = some (.int .i32 y2) ∧ wx.cell? ⟨g, t * 5 + 2, none⟩ = some (.int .i32 (y3 : Int)) ∧ wx.cell? ⟨g, t * 5 + 3, none⟩ = some (.int .i32 (y4 : Int)) ∧ wx.cell? ⟨g, t * 5 + 4, none⟩ = some (.bool y5)) (first | go_keep) (fail)
  · obtain ⟨w2, hw2⟩ : ∃ z, ((w1.alloc (.cells #[.int .i32 (x1 : Int), .int .i32 x2, .int .i32 (x3 : Int), .int .i32 (x4 : Int), .bool x5] 141)).alloc (.cells #[.int .i32 (y1 : Int), .int .i32 y2, .int .i32 (y3 : Int), .int .i32 (y4 : Int), .bool y5] 141)).drew = z := ⟨_, rfl⟩
    have hb2 : Below w1.heap.size w1 w2 := by rw [← hw2]; exact (bel_two _ _ _).drew
    obtain ⟨p5, hp5⟩ : ∃ z, w1.heap.size = z := ⟨_, rfl⟩
    obtain ⟨p6, hp6⟩ : ∃ z, w1.heap.size + 1 = z := ⟨_, rfl⟩
    have l5 : w2.cell? ⟨p5, 3, none⟩ = some (.int .i32 (x4 : Int)) ∧ w2.cell? ⟨p5, 4, none⟩ = some (.bool x5) := by
      rw [← hw2, ← hp5]; exact ⟨z_two_first _ _ _ _ _ 3, z_two_first _ _ _ _ _ 4⟩
    have l6 : w2.cell? ⟨p6, 3, none⟩ = some (.int .i32 (y4 : Int)) := by
      rw [← hw2, ← hp6]; exact z_two_second _ _ _ _ _ 3
    rw [hw2, hp6, hp5]
    have s5 : w1.heap.size ≤ p5 ∧ w1.heap.size ≤ p6 := by omega
    clear hw2 hp5 hp6
    have n1 : p ≠ q := by have := HB.out.lt.1; have := HP.out; omega
    have n2 : p5 ≠ q := by have := HB1.out.lt.1; omega
    have n3 : p6 ≠ q := by have := HB1.out.lt.1; omega
    have n4 : p ≠ g := by have := HP.out; omega
    have n5 : p5 ≠ g := by have := HAL.out.size; omega
    have n6 : p6 ≠ g := by have := HAL.out.size; omega
    have ⟨l51, l52⟩ := l5
    have f1 := hb2.cell (p := ⟨q, 1, none⟩) (World.block_lt_of_cell? w1 _ c1) |>.trans c1
    have f2 := cell_keep hb2 t0
    have f3 := cell_keep hb2 t1
    have f4 := cell_keep hb2 t2
    have HB2 := Lib.hid (HB1.out.below hb2)
    have hfr2 : w2.ownsRow n0 141 5 (.slice (some ⟨g, 0, none⟩) N cap) N (gCells fzCell F) := z_own_below HFR.out hb2
    have HFR2 := Lib.hid hfr2
    have HBB : Hid (Below w.heap.size w w2) := Lib.hid (HAL.out.trans (hb2.mono HAL.out.size))
    clear c1 t0 t1 t2 b0 b1 b2 b3 b4 d0 d1 d2 d3 d4 hb2 l5
    have f5 : w2.cell? ⟨q, 1, none⟩ = some (.slice (some ⟨g, 0, none⟩) N cap) := f1
    obtain ⟨v', w5, hrun, hown5, hgr5, hblk5⟩ := append_one (P := Tryd.prog) fz_ln fz_one info_fz rfl (by decide) (by decide) Tryd.underlying142 w2.drew n0 _ N (gCells fzCell F) hfr2 ((b, r, t), s4, x5) (by have := HB2.out.lt.2.2; exact this) (by omega)
    have hl2 : w2.heap.size < w2.heap.size + 1 := by omega
    obtain ⟨L, hL⟩ : ∃ z, w2.heap.size = z := ⟨_, rfl⟩
    have hL' : w2.drew.heap.size = L := hL
    rw [hL'] at hrun hblk5
    have HRUN := Lib.hid hrun
    obtain ⟨a1, a2, a3, a4, a5, a6, a7⟩ := HB2.out.apart
    have hbx5 : w5.heap[q]? = some (.cells #[vw, .slice (some ⟨g, 0, none⟩) N cap, .map (some m)] 145) := (hgr5.block q (by have := HB2.out.lt.1; simp; omega) (fun e => a2 e.symm)).trans ((Below.heap_alloc _ _ _ HB2.out.lt.1).trans HB2.out.box)
    have g1 : w5.cell? ⟨q, 1, none⟩ = some (.slice (some ⟨g, 0, none⟩) N cap) := by rw [cell_of_row _ _ _ _ _ (0, 0) hbx5]; rfl
    have g2 : w5.frozen? ⟨q, 1, none⟩ = false := by simp [World.frozen?, hbx5]
    have hB2d : Bld w2.drew q m n0 k D W F vw (.slice (some ⟨g, 0, none⟩) N cap) := HB2.out.below (Below.refl _ _).drew
    have hpush := hB2d.pushFrz _ hgr5 (F2 := F ++ [((b, r, t), s4, x5)]) (by unfold FzOwn; rw [List.length_append, HN.out, gCells_snoc]; exact hown5)
    have HB5 : Hid (Bld (w5.setCell ⟨q, 1, none⟩ v') q m n0 k D W (F ++ [((b, r, t), s4, x5)]) vw v' ∧ BFr q m n0 w (w5.setCell ⟨q, 1, none⟩ v')) := Lib.hid ⟨hpush.1, ((BFr.of_below HBB.out HB.out.lt.2.2).trans (BFr.of_below (Below.refl _ _).drew (by have := HB2.out.lt.2.2; exact this))).trans hpush.2⟩
    have hpl : p < w1.heap.size := (Array.getElem?_eq_some_iff.1 HE0.out).1
    have hpl2 : p < w2.heap.size := World.block_lt_of_cell? w2 _ f2
    have hg5 : ∀ x, x < w2.heap.size → x ≠ g → w5.heap[x]? = w2.heap[x]? := fun x h1 h2 => (hgr5.block x (by simp; omega) (fun e => h2 (by simpa [Value.ownBlock] using e))).trans (Below.heap_alloc _ _ _ h1)
    have hpg : p ≠ g := n4
    have hp5g : p5 ≠ g := n5
    have hp6g : p6 ≠ g := n6
    have m0 : w5.cell? ⟨p, 0, none⟩ = some (.int .i32 (b : Int)) := (World.cell?_of_block (hg5 p hpl2 hpg)).trans f2
    have m1 : w5.cell? ⟨p, 1, none⟩ = some (.int .i32 r) := (World.cell?_of_block (hg5 p hpl2 hpg)).trans f3
    have m2 : w5.cell? ⟨p, 2, none⟩ = some (.int .i32 (t : Int)) := (World.cell?_of_block (hg5 p hpl2 hpg)).trans f4
    have m3 : w5.cell? ⟨p5, 3, none⟩ = some (.int .i32 (x4 : Int)) := (World.cell?_of_block (hg5 p5 (World.block_lt_of_cell? w2 _ l51) hp5g)).trans l51
    have m4 : w5.cell? ⟨p5, 4, none⟩ = some (.bool x5) := (World.cell?_of_block (hg5 p5 (World.block_lt_of_cell? w2 _ l51) hp5g)).trans l52
    have m5 : w5.cell? ⟨p6, 3, none⟩ = some (.int .i32 (y4 : Int)) := (World.cell?_of_block (hg5 p6 (World.block_lt_of_cell? w2 _ l6) hp6g)).trans l6
    obtain ⟨A', m', e'⟩ := z_own_slice hown5
    have k1 : (w2.alloc (.cells #[.int .i32 (b : Int), .int .i32 r, .int .i32 (t : Int), .int .i32 (s4 : Int), .bool x5] 141)).cell? ⟨q, 1, none⟩ = some (.slice (some ⟨g, 0, none⟩) N cap) := cell_keep (bel_one _ _) f1
    have k2 : (w2.alloc (.cells #[.int .i32 (b : Int), .int .i32 r, .int .i32 (t : Int), .int .i32 (s4 : Int), .bool x5] 141)).drew.cell? ⟨q, 1, none⟩ = some (.slice (some ⟨g, 0, none⟩) N cap) := k1
    subst e'
    clear hrun hown5 hgr5 hblk5 hfr2 a1 a2 a3 a4 a5 a6 a7 hl2 hpush hB2d hg5 hpg hp5g hp6g hpl hpl2
    go_wp2
    apply z_region_at (W := w5.setCell ⟨q, 1, none⟩ (.slice A' (N + 1) m'))
    · refine wp_region_held_drew (S := fun wx => wx.cell? ⟨p, 0, none⟩ = some (.int .i32 (b : Int)) ∧ wx.cell? ⟨p, 1, none⟩ = some (.int .i32 r) ∧ wx.cell? ⟨p, 2, none⟩ = some (.int .i32 (t : Int)) ∧ wx.cell? ⟨p5, 3, none⟩ = some (.int .i32 (x4 : Int)) ∧ wx.cell? ⟨p5, 4, none⟩ = some (.bool x5) ∧ wx.cell? ⟨p6, 3, none⟩ = some (.int .i32 (y4 : Int))) (by kernel_rfl) ⟨f2, f3, f4, l51, l52, l6⟩ (fun hS => ?_)
      change wpAnyH _ _ _ _ _ 19 _ _ _
      refine wpAnyH_take (i := 0) (v := .pointer (some ⟨q, 0, none⟩)) rfl (by kernel_rfl) (by kernel_rfl) (by kernel_rfl) (fun _ _ _ h => h) (Or.inl ⟨by rfl, fun wy hy => by obtain ⟨y0, y1, y2, y3, y4, y5⟩ := hy; go_simp⟩) hS ?_
      refine wpAnyH_take (i := 1) (v := .pointer (some ⟨q, 0, none⟩)) rfl (by kernel_rfl) (by kernel_rfl) (by kernel_rfl) (fun _ _ _ h => h) (Or.inl ⟨by rfl, fun wy hy => by obtain ⟨y0, y1, y2, y3, y4, y5⟩ := hy; go_simp⟩) hS ?_
      refine wpAnyH_take (i := 2) (v := .pointer (some ⟨q, 0, none⟩)) rfl (by kernel_rfl) (by kernel_rfl) (by kernel_rfl) (fun _ _ _ h => h) (Or.inl ⟨by rfl, fun wy hy => by obtain ⟨y0, y1, y2, y3, y4, y5⟩ := hy; go_simp⟩) hS ?_
      refine wpAnyH_take (i := 3) (v := .pointer (some ⟨q, 1, none⟩)) rfl (by kernel_rfl) (by kernel_rfl) (by kernel_rfl) (fun _ _ _ h => h) (Or.inl ⟨by rfl, fun wy hy => by obtain ⟨y0, y1, y2, y3, y4, y5⟩ := hy; go_simp⟩) hS ?_
      refine wpAnyH_take (i := 5) (v := .agg #[.int .i32 (b : Int), .int .i32 r, .int .i32 (t : Int)]) rfl (by kernel_rfl) (by kernel_rfl) (by kernel_rfl) (fun _ _ _ h => h) (Or.inl ⟨by rfl, fun wy hy => by obtain ⟨y0, y1, y2, y3, y4, y5⟩ := hy; go_simp⟩) hS ?_
      refine wpAnyH_take (i := 6) (v := .pointer (some ⟨p5, 3, none⟩)) rfl (by kernel_rfl) (by kernel_rfl) (by kernel_rfl) (fun _ _ _ h => h) (Or.inl ⟨by rfl, fun wy hy => by obtain ⟨y0, y1, y2, y3, y4, y5⟩ := hy; go_simp⟩) hS ?_
      refine wpAnyH_take (i := 7) (v := .int .i32 (x4 : Int)) rfl (by kernel_rfl) (by kernel_rfl) (by kernel_rfl) (fun _ _ _ h => h) (Or.inl ⟨by rfl, fun wy hy => by obtain ⟨y0, y1, y2, y3, y4, y5⟩ := hy; go_simp⟩) hS ?_
      refine wpAnyH_take (i := 8) (v := .pointer (some ⟨p6, 3, none⟩)) rfl (by kernel_rfl) (by kernel_rfl) (by kernel_rfl) (fun _ _ _ h => h) (Or.inl ⟨by rfl, fun wy hy => by obtain ⟨y0, y1, y2, y3, y4, y5⟩ := hy; go_simp⟩) hS ?_
      refine wpAnyH_take (i := 9) (v := .int .i32 (y4 : Int)) rfl (by kernel_rfl) (by kernel_rfl) (by kernel_rfl) (fun _ _ _ h => h) (Or.inl ⟨by rfl, fun wy hy => by obtain ⟨y0, y1, y2, y3, y4, y5⟩ := hy; go_simp⟩) hS ?_
      refine wpAnyH_take (i := 10) (v := .int .i32 (s4 : Int)) rfl (by kernel_rfl) (by kernel_rfl) (by kernel_rfl) (fun _ _ _ h => h) (Or.inl ⟨by rfl, fun wy hy => by obtain ⟨y0, y1, y2, y3, y4, y5⟩ := hy; go_simp⟩) hS ?_
      refine wpAnyH_take (i := 11) (v := .pointer (some ⟨p5, 4, none⟩)) rfl (by kernel_rfl) (by kernel_rfl) (by kernel_rfl) (fun _ _ _ h => h) (Or.inl ⟨by rfl, fun wy hy => by obtain ⟨y0, y1, y2, y3, y4, y5⟩ := hy; go_simp⟩) hS ?_
      refine wpAnyH_take (i := 12) (v := .bool x5) rfl (by kernel_rfl) (by kernel_rfl) (by kernel_rfl) (fun _ _ _ h => h) (Or.inl ⟨by rfl, fun wy hy => by obtain ⟨y0, y1, y2, y3, y4, y5⟩ := hy; go_simp⟩) hS ?_
      refine wpAnyH_take (i := 13) (v := .agg #[.int .i32 (b : Int), .int .i32 r, .int .i32 (t : Int), .int .i32 (s4 : Int), .bool x5]) rfl (by kernel_rfl) (by kernel_rfl) (by kernel_rfl) (fun _ _ _ h => h) (Or.inl ⟨by rfl, fun wy hy => by obtain ⟨y0, y1, y2, y3, y4, y5⟩ := hy; go_simp⟩) hS ?_
      refine wpAnyH_ready (rs := [4, 14]) (by kernel_rfl) (by simp) ?_
      refine AllReadyH.cons rfl (fun K hK => ?_) (AllReadyH.cons rfl (fun K hK => ?_) AllReadyH.nil)
      · go_simp
        refine hK.out _ _ hS (fun hS => ?_)
        refine wpAnyH_ready (rs := [14]) (by kernel_rfl) (by simp) ?_
        refine AllReadyH.cons rfl (fun K hK => ?_) AllReadyH.nil
        go_simp
        refine hK.out _ _ ⟨(cell_keep (bel_one _ _) hS.1), (cell_keep (bel_one _ _) hS.2.1), (cell_keep (bel_one _ _) hS.2.2.1), (cell_keep (bel_one _ _) hS.2.2.2.1), (cell_keep (bel_one _ _) hS.2.2.2.2.1), (cell_keep (bel_one _ _) hS.2.2.2.2.2)⟩ (fun hS => ?_)
        refine wpAnyH_ready (rs := [15]) (by kernel_rfl) (by simp) ?_
        refine AllReadyH.cons rfl (fun K hK => ?_) AllReadyH.nil
        refine xstep_append ?_ (.tmp 27) (.tmp 37) 142 _ _ _ _ ?_ HRUN.out ?_ ?_ ?_
        · rfl
        · rfl
        · rfl
        · rfl
        refine hK.out _ _ ⟨m0, m1, m2, m3, m4, m5⟩ (fun hS => ?_)
        refine wpAnyH_take (i := 16) (v := .pointer (some ⟨q, 0, none⟩)) rfl (by kernel_rfl) (by kernel_rfl) (by kernel_rfl) (fun _ _ _ h => h) (Or.inl ⟨by rfl, fun wy hy => by obtain ⟨y0, y1, y2, y3, y4, y5⟩ := hy; go_simp⟩) hS ?_
        refine wpAnyH_take (i := 17) (v := .pointer (some ⟨q, 1, none⟩)) rfl (by kernel_rfl) (by kernel_rfl) (by kernel_rfl) (fun _ _ _ h => h) (Or.inl ⟨by rfl, fun wy hy => by obtain ⟨y0, y1, y2, y3, y4, y5⟩ := hy; go_simp⟩) hS ?_
        refine wpAnyH_ready (rs := [18]) (by kernel_rfl) (by simp) ?_
        refine AllReadyH.cons rfl (fun K hK => ?_) AllReadyH.nil
        go_simp
        refine hK.out _ _ ⟨(z_cell_set_ne _ _ _ _ _ _ n1).trans m0, (z_cell_set_ne _ _ _ _ _ _ n1).trans m1, (z_cell_set_ne _ _ _ _ _ _ n1).trans m2, (z_cell_set_ne _ _ _ _ _ _ n2).trans m3, (z_cell_set_ne _ _ _ _ _ _ n2).trans m4, (z_cell_set_ne _ _ _ _ _ _ n3).trans m5⟩ (fun hS => ?_)
        exact wpAnyH_done (by kernel_rfl) ⟨rfl, rfl⟩ _
      · go_simp
        refine hK.out _ _ ⟨(cell_keep (bel_one _ _) hS.1), (cell_keep (bel_one _ _) hS.2.1), (cell_keep (bel_one _ _) hS.2.2.1), (cell_keep (bel_one _ _) hS.2.2.2.1), (cell_keep (bel_one _ _) hS.2.2.2.2.1), (cell_keep (bel_one _ _) hS.2.2.2.2.2)⟩ (fun hS => ?_)
        refine wpAnyH_ready (rs := [4]) (by kernel_rfl) (by simp) ?_
        refine AllReadyH.cons rfl (fun K hK => ?_) AllReadyH.nil
        go_simp
        refine hK.out _ _ hS (fun hS => ?_)
        refine wpAnyH_ready (rs := [15]) (by kernel_rfl) (by simp) ?_
        refine AllReadyH.cons rfl (fun K hK => ?_) AllReadyH.nil
        refine xstep_append ?_ (.tmp 27) (.tmp 37) 142 _ _ _ _ ?_ HRUN.out ?_ ?_ ?_
        · rfl
        · rfl
        · rfl
        · rfl
        refine hK.out _ _ ⟨m0, m1, m2, m3, m4, m5⟩ (fun hS => ?_)
        refine wpAnyH_take (i := 16) (v := .pointer (some ⟨q, 0, none⟩)) rfl (by kernel_rfl) (by kernel_rfl) (by kernel_rfl) (fun _ _ _ h => h) (Or.inl ⟨by rfl, fun wy hy => by obtain ⟨y0, y1, y2, y3, y4, y5⟩ := hy; go_simp⟩) hS ?_
        refine wpAnyH_take (i := 17) (v := .pointer (some ⟨q, 1, none⟩)) rfl (by kernel_rfl) (by kernel_rfl) (by kernel_rfl) (fun _ _ _ h => h) (Or.inl ⟨by rfl, fun wy hy => by obtain ⟨y0, y1, y2, y3, y4, y5⟩ := hy; go_simp⟩) hS ?_
        refine wpAnyH_ready (rs := [18]) (by kernel_rfl) (by simp) ?_
        refine AllReadyH.cons rfl (fun K hK => ?_) AllReadyH.nil
        go_simp
        refine hK.out _ _ ⟨(z_cell_set_ne _ _ _ _ _ _ n1).trans m0, (z_cell_set_ne _ _ _ _ _ _ n1).trans m1, (z_cell_set_ne _ _ _ _ _ _ n1).trans m2, (z_cell_set_ne _ _ _ _ _ _ n2).trans m3, (z_cell_set_ne _ _ _ _ _ _ n2).trans m4, (z_cell_set_ne _ _ _ _ _ _ n3).trans m5⟩ (fun hS => ?_)
        exact wpAnyH_done (by kernel_rfl) ⟨rfl, rfl⟩ _
    obtain ⟨w6, hw6⟩ : ∃ z, w5.setCell ⟨q, 1, none⟩ (.slice A' (N + 1) m') = z := ⟨_, rfl⟩
    rw [hw6] at HB5 ⊢
    have o1 := HB5.out.1.cells.2.1
    clear hw6 m0 m1 m2 m3 m4 m5 g1 g2 f1 f2 f3 f4 f5 k1 k2 l51 l52 l6 HRUN
    go_wp2
    go_ret
    exact ⟨rfl, ⟨_, HB5.out.1⟩, HB5.out.2⟩
  · obtain ⟨w2, hw2⟩ : ∃ z, ((w1.alloc (.cells #[.int .i32 (y1 : Int), .int .i32 y2, .int .i32 (y3 : Int), .int .i32 (y4 : Int), .bool y5] 141)).alloc (.cells #[.int .i32 (x1 : Int), .int .i32 x2, .int .i32 (x3 : Int), .int .i32 (x4 : Int), .bool x5] 141)).drew = z := ⟨_, rfl⟩
    have hb2 : Below w1.heap.size w1 w2 := by rw [← hw2]; exact (bel_two _ _ _).drew
    obtain ⟨p5, hp5⟩ : ∃ z, w1.heap.size + 1 = z := ⟨_, rfl⟩
    obtain ⟨p6, hp6⟩ : ∃ z, w1.heap.size = z := ⟨_, rfl⟩
    have l5 : w2.cell? ⟨p5, 3, none⟩ = some (.int .i32 (x4 : Int)) ∧ w2.cell? ⟨p5, 4, none⟩ = some (.bool x5) := by
      rw [← hw2, ← hp5]; exact ⟨z_two_second _ _ _ _ _ 3, z_two_second _ _ _ _ _ 4⟩
    have l6 : w2.cell? ⟨p6, 3, none⟩ = some (.int .i32 (y4 : Int)) := by
      rw [← hw2, ← hp6]; exact z_two_first _ _ _ _ _ 3
    rw [hw2, hp5, hp6]
    have s5 : w1.heap.size ≤ p5 ∧ w1.heap.size ≤ p6 := by omega
    clear hw2 hp5 hp6
    have n1 : p ≠ q := by have := HB.out.lt.1; have := HP.out; omega
    have n2 : p5 ≠ q := by have := HB1.out.lt.1; omega
    have n3 : p6 ≠ q := by have := HB1.out.lt.1; omega
    have n4 : p ≠ g := by have := HP.out; omega
    have n5 : p5 ≠ g := by have := HAL.out.size; omega
    have n6 : p6 ≠ g := by have := HAL.out.size; omega
    have ⟨l51, l52⟩ := l5
    have f1 := hb2.cell (p := ⟨q, 1, none⟩) (World.block_lt_of_cell? w1 _ c1) |>.trans c1
    have f2 := cell_keep hb2 t0
    have f3 := cell_keep hb2 t1
    have f4 := cell_keep hb2 t2
    have HB2 := Lib.hid (HB1.out.below hb2)
    have hfr2 : w2.ownsRow n0 141 5 (.slice (some ⟨g, 0, none⟩) N cap) N (gCells fzCell F) := z_own_below HFR.out hb2
    have HFR2 := Lib.hid hfr2
    have HBB : Hid (Below w.heap.size w w2) := Lib.hid (HAL.out.trans (hb2.mono HAL.out.size))
    clear c1 t0 t1 t2 b0 b1 b2 b3 b4 d0 d1 d2 d3 d4 hb2 l5
    have f5 : w2.cell? ⟨q, 1, none⟩ = some (.slice (some ⟨g, 0, none⟩) N cap) := f1
    obtain ⟨v', w5, hrun, hown5, hgr5, hblk5⟩ := append_one (P := Tryd.prog) fz_ln fz_one info_fz rfl (by decide) (by decide) Tryd.underlying142 w2.drew n0 _ N (gCells fzCell F) hfr2 ((b, r, t), s4, x5) (by have := HB2.out.lt.2.2; exact this) (by omega)
    have hl2 : w2.heap.size < w2.heap.size + 1 := by omega
    obtain ⟨L, hL⟩ : ∃ z, w2.heap.size = z := ⟨_, rfl⟩
    have hL' : w2.drew.heap.size = L := hL
    rw [hL'] at hrun hblk5
    have HRUN := Lib.hid hrun
    obtain ⟨a1, a2, a3, a4, a5, a6, a7⟩ := HB2.out.apart
    have hbx5 : w5.heap[q]? = some (.cells #[vw, .slice (some ⟨g, 0, none⟩) N cap, .map (some m)] 145) := (hgr5.block q (by have := HB2.out.lt.1; simp; omega) (fun e => a2 e.symm)).trans ((Below.heap_alloc _ _ _ HB2.out.lt.1).trans HB2.out.box)
    have g1 : w5.cell? ⟨q, 1, none⟩ = some (.slice (some ⟨g, 0, none⟩) N cap) := by rw [cell_of_row _ _ _ _ _ (0, 0) hbx5]; rfl
    have g2 : w5.frozen? ⟨q, 1, none⟩ = false := by simp [World.frozen?, hbx5]
    have hB2d : Bld w2.drew q m n0 k D W F vw (.slice (some ⟨g, 0, none⟩) N cap) := HB2.out.below (Below.refl _ _).drew
    have hpush := hB2d.pushFrz _ hgr5 (F2 := F ++ [((b, r, t), s4, x5)]) (by unfold FzOwn; rw [List.length_append, HN.out, gCells_snoc]; exact hown5)
    have HB5 : Hid (Bld (w5.setCell ⟨q, 1, none⟩ v') q m n0 k D W (F ++ [((b, r, t), s4, x5)]) vw v' ∧ BFr q m n0 w (w5.setCell ⟨q, 1, none⟩ v')) := Lib.hid ⟨hpush.1, ((BFr.of_below HBB.out HB.out.lt.2.2).trans (BFr.of_below (Below.refl _ _).drew (by have := HB2.out.lt.2.2; exact this))).trans hpush.2⟩
    have hpl : p < w1.heap.size := (Array.getElem?_eq_some_iff.1 HE0.out).1
    have hpl2 : p < w2.heap.size := World.block_lt_of_cell? w2 _ f2
    have hg5 : ∀ x, x < w2.heap.size → x ≠ g → w5.heap[x]? = w2.heap[x]? := fun x h1 h2 => (hgr5.block x (by simp; omega) (fun e => h2 (by simpa [Value.ownBlock] using e))).trans (Below.heap_alloc _ _ _ h1)
    have hpg : p ≠ g := n4
    have hp5g : p5 ≠ g := n5
    have hp6g : p6 ≠ g := n6
    have m0 : w5.cell? ⟨p, 0, none⟩ = some (.int .i32 (b : Int)) := (World.cell?_of_block (hg5 p hpl2 hpg)).trans f2
    have m1 : w5.cell? ⟨p, 1, none⟩ = some (.int .i32 r) := (World.cell?_of_block (hg5 p hpl2 hpg)).trans f3
    have m2 : w5.cell? ⟨p, 2, none⟩ = some (.int .i32 (t : Int)) := (World.cell?_of_block (hg5 p hpl2 hpg)).trans f4
    have m3 : w5.cell? ⟨p5, 3, none⟩ = some (.int .i32 (x4 : Int)) := (World.cell?_of_block (hg5 p5 (World.block_lt_of_cell? w2 _ l51) hp5g)).trans l51
    have m4 : w5.cell? ⟨p5, 4, none⟩ = some (.bool x5) := (World.cell?_of_block (hg5 p5 (World.block_lt_of_cell? w2 _ l51) hp5g)).trans l52
    have m5 : w5.cell? ⟨p6, 3, none⟩ = some (.int .i32 (y4 : Int)) := (World.cell?_of_block (hg5 p6 (World.block_lt_of_cell? w2 _ l6) hp6g)).trans l6
    obtain ⟨A', m', e'⟩ := z_own_slice hown5
    have k1 : (w2.alloc (.cells #[.int .i32 (b : Int), .int .i32 r, .int .i32 (t : Int), .int .i32 (s4 : Int), .bool x5] 141)).cell? ⟨q, 1, none⟩ = some (.slice (some ⟨g, 0, none⟩) N cap) := cell_keep (bel_one _ _) f1
    have k2 : (w2.alloc (.cells #[.int .i32 (b : Int), .int .i32 r, .int .i32 (t : Int), .int .i32 (s4 : Int), .bool x5] 141)).drew.cell? ⟨q, 1, none⟩ = some (.slice (some ⟨g, 0, none⟩) N cap) := k1
    subst e'
    clear hrun hown5 hgr5 hblk5 hfr2 a1 a2 a3 a4 a5 a6 a7 hl2 hpush hB2d hg5 hpg hp5g hp6g hpl hpl2
    go_wp2
    apply z_region_at (W := w5.setCell ⟨q, 1, none⟩ (.slice A' (N + 1) m'))
    · refine wp_region_held_drew (S := fun wx => wx.cell? ⟨p, 0, none⟩ = some (.int .i32 (b : Int)) ∧ wx.cell? ⟨p, 1, none⟩ = some (.int .i32 r) ∧ wx.cell? ⟨p, 2, none⟩ = some (.int .i32 (t : Int)) ∧ wx.cell? ⟨p5, 3, none⟩ = some (.int .i32 (x4 : Int)) ∧ wx.cell? ⟨p5, 4, none⟩ = some (.bool x5) ∧ wx.cell? ⟨p6, 3, none⟩ = some (.int .i32 (y4 : Int))) (by kernel_rfl) ⟨f2, f3, f4, l51, l52, l6⟩ (fun hS => ?_)
      change wpAnyH _ _ _ _ _ 19 _ _ _
      refine wpAnyH_take (i := 0) (v := .pointer (some ⟨q, 0, none⟩)) rfl (by kernel_rfl) (by kernel_rfl) (by kernel_rfl) (fun _ _ _ h => h) (Or.inl ⟨by rfl, fun wy hy => by obtain ⟨y0, y1, y2, y3, y4, y5⟩ := hy; go_simp⟩) hS ?_
      refine wpAnyH_take (i := 1) (v := .pointer (some ⟨q, 0, none⟩)) rfl (by kernel_rfl) (by kernel_rfl) (by kernel_rfl) (fun _ _ _ h => h) (Or.inl ⟨by rfl, fun wy hy => by obtain ⟨y0, y1, y2, y3, y4, y5⟩ := hy; go_simp⟩) hS ?_
      refine wpAnyH_take (i := 2) (v := .pointer (some ⟨q, 0, none⟩)) rfl (by kernel_rfl) (by kernel_rfl) (by kernel_rfl) (fun _ _ _ h => h) (Or.inl ⟨by rfl, fun wy hy => by obtain ⟨y0, y1, y2, y3, y4, y5⟩ := hy; go_simp⟩) hS ?_
      refine wpAnyH_take (i := 3) (v := .pointer (some ⟨q, 1, none⟩)) rfl (by kernel_rfl) (by kernel_rfl) (by kernel_rfl) (fun _ _ _ h => h) (Or.inl ⟨by rfl, fun wy hy => by obtain ⟨y0, y1, y2, y3, y4, y5⟩ := hy; go_simp⟩) hS ?_
      refine wpAnyH_take (i := 5) (v := .agg #[.int .i32 (b : Int), .int .i32 r, .int .i32 (t : Int)]) rfl (by kernel_rfl) (by kernel_rfl) (by kernel_rfl) (fun _ _ _ h => h) (Or.inl ⟨by rfl, fun wy hy => by obtain ⟨y0, y1, y2, y3, y4, y5⟩ := hy; go_simp⟩) hS ?_
      refine wpAnyH_take (i := 6) (v := .pointer (some ⟨p5, 3, none⟩)) rfl (by kernel_rfl) (by kernel_rfl) (by kernel_rfl) (fun _ _ _ h => h) (Or.inl ⟨by rfl, fun wy hy => by obtain ⟨y0, y1, y2, y3, y4, y5⟩ := hy; go_simp⟩) hS ?_
      refine wpAnyH_take (i := 7) (v := .int .i32 (x4 : Int)) rfl (by kernel_rfl) (by kernel_rfl) (by kernel_rfl) (fun _ _ _ h => h) (Or.inl ⟨by rfl, fun wy hy => by obtain ⟨y0, y1, y2, y3, y4, y5⟩ := hy; go_simp⟩) hS ?_
      refine wpAnyH_take (i := 8) (v := .pointer (some ⟨p6, 3, none⟩)) rfl (by kernel_rfl) (by kernel_rfl) (by kernel_rfl) (fun _ _ _ h => h) (Or.inl ⟨by rfl, fun wy hy => by obtain ⟨y0, y1, y2, y3, y4, y5⟩ := hy; go_simp⟩) hS ?_
      refine wpAnyH_take (i := 9) (v := .int .i32 (y4 : Int)) rfl (by kernel_rfl) (by kernel_rfl) (by kernel_rfl) (fun _ _ _ h => h) (Or.inl ⟨by rfl, fun wy hy => by obtain ⟨y0, y1, y2, y3, y4, y5⟩ := hy; go_simp⟩) hS ?_
      refine wpAnyH_take (i := 10) (v := .int .i32 (s4 : Int)) rfl (by kernel_rfl) (by kernel_rfl) (by kernel_rfl) (fun _ _ _ h => h) (Or.inl ⟨by rfl, fun wy hy => by obtain ⟨y0, y1, y2, y3, y4, y5⟩ := hy; go_simp⟩) hS ?_
      refine wpAnyH_take (i := 11) (v := .pointer (some ⟨p5, 4, none⟩)) rfl (by kernel_rfl) (by kernel_rfl) (by kernel_rfl) (fun _ _ _ h => h) (Or.inl ⟨by rfl, fun wy hy => by obtain ⟨y0, y1, y2, y3, y4, y5⟩ := hy; go_simp⟩) hS ?_
      refine wpAnyH_take (i := 12) (v := .bool x5) rfl (by kernel_rfl) (by kernel_rfl) (by kernel_rfl) (fun _ _ _ h => h) (Or.inl ⟨by rfl, fun wy hy => by obtain ⟨y0, y1, y2, y3, y4, y5⟩ := hy; go_simp⟩) hS ?_
      refine wpAnyH_take (i := 13) (v := .agg #[.int .i32 (b : Int), .int .i32 r, .int .i32 (t : Int), .int .i32 (s4 : Int), .bool x5]) rfl (by kernel_rfl) (by kernel_rfl) (by kernel_rfl) (fun _ _ _ h => h) (Or.inl ⟨by rfl, fun wy hy => by obtain ⟨y0, y1, y2, y3, y4, y5⟩ := hy; go_simp⟩) hS ?_
      refine wpAnyH_ready (rs := [4, 14]) (by kernel_rfl) (by simp) ?_
      refine AllReadyH.cons rfl (fun K hK => ?_) (AllReadyH.cons rfl (fun K hK => ?_) AllReadyH.nil)
      · go_simp
        refine hK.out _ _ hS (fun hS => ?_)
        refine wpAnyH_ready (rs := [14]) (by kernel_rfl) (by simp) ?_
        refine AllReadyH.cons rfl (fun K hK => ?_) AllReadyH.nil
        go_simp
        refine hK.out _ _ ⟨(cell_keep (bel_one _ _) hS.1), (cell_keep (bel_one _ _) hS.2.1), (cell_keep (bel_one _ _) hS.2.2.1), (cell_keep (bel_one _ _) hS.2.2.2.1), (cell_keep (bel_one _ _) hS.2.2.2.2.1), (cell_keep (bel_one _ _) hS.2.2.2.2.2)⟩ (fun hS => ?_)
        refine wpAnyH_ready (rs := [15]) (by kernel_rfl) (by simp) ?_
        refine AllReadyH.cons rfl (fun K hK => ?_) AllReadyH.nil
        refine xstep_append ?_ (.tmp 27) (.tmp 37) 142 _ _ _ _ ?_ HRUN.out ?_ ?_ ?_
        · rfl
        · rfl
        · rfl
        · rfl
        refine hK.out _ _ ⟨m0, m1, m2, m3, m4, m5⟩ (fun hS => ?_)
        refine wpAnyH_take (i := 16) (v := .pointer (some ⟨q, 0, none⟩)) rfl (by kernel_rfl) (by kernel_rfl) (by kernel_rfl) (fun _ _ _ h => h) (Or.inl ⟨by rfl, fun wy hy => by obtain ⟨y0, y1, y2, y3, y4, y5⟩ := hy; go_simp⟩) hS ?_
        refine wpAnyH_take (i := 17) (v := .pointer (some ⟨q, 1, none⟩)) rfl (by kernel_rfl) (by kernel_rfl) (by kernel_rfl) (fun _ _ _ h => h) (Or.inl ⟨by rfl, fun wy hy => by obtain ⟨y0, y1, y2, y3, y4, y5⟩ := hy; go_simp⟩) hS ?_
        refine wpAnyH_ready (rs := [18]) (by kernel_rfl) (by simp) ?_
        refine AllReadyH.cons rfl (fun K hK => ?_) AllReadyH.nil
        go_simp
        refine hK.out _ _ ⟨(z_cell_set_ne _ _ _ _ _ _ n1).trans m0, (z_cell_set_ne _ _ _ _ _ _ n1).trans m1, (z_cell_set_ne _ _ _ _ _ _ n1).trans m2, (z_cell_set_ne _ _ _ _ _ _ n2).trans m3, (z_cell_set_ne _ _ _ _ _ _ n2).trans m4, (z_cell_set_ne _ _ _ _ _ _ n3).trans m5⟩ (fun hS => ?_)
        exact wpAnyH_done (by kernel_rfl) ⟨rfl, rfl⟩ _
      · go_simp
        refine hK.out _ _ ⟨(cell_keep (bel_one _ _) hS.1), (cell_keep (bel_one _ _) hS.2.1), (cell_keep (bel_one _ _) hS.2.2.1), (cell_keep (bel_one _ _) hS.2.2.2.1), (cell_keep (bel_one _ _) hS.2.2.2.2.1), (cell_keep (bel_one _ _) hS.2.2.2.2.2)⟩ (fun hS => ?_)
        refine wpAnyH_ready (rs := [4]) (by kernel_rfl) (by simp) ?_
        refine AllReadyH.cons rfl (fun K hK => ?_) AllReadyH.nil
        go_simp
        refine hK.out _ _ hS (fun hS => ?_)
        refine wpAnyH_ready (rs := [15]) (by kernel_rfl) (by simp) ?_
        refine AllReadyH.cons rfl (fun K hK => ?_) AllReadyH.nil
        refine xstep_append ?_ (.tmp 27) (.tmp 37) 142 _ _ _ _ ?_ HRUN.out ?_ ?_ ?_
        · rfl
        · rfl
        · rfl
        · rfl
        refine hK.out _ _ ⟨m0, m1, m2, m3, m4, m5⟩ (fun hS => ?_)
        refine wpAnyH_take (i := 16) (v := .pointer (some ⟨q, 0, none⟩)) rfl (by kernel_rfl) (by kernel_rfl) (by kernel_rfl) (fun _ _ _ h => h) (Or.inl ⟨by rfl, fun wy hy => by obtain ⟨y0, y1, y2, y3, y4, y5⟩ := hy; go_simp⟩) hS ?_
        refine wpAnyH_take (i := 17) (v := .pointer (some ⟨q, 1, none⟩)) rfl (by kernel_rfl) (by kernel_rfl) (by kernel_rfl) (fun _ _ _ h => h) (Or.inl ⟨by rfl, fun wy hy => by obtain ⟨y0, y1, y2, y3, y4, y5⟩ := hy; go_simp⟩) hS ?_
        refine wpAnyH_ready (rs := [18]) (by kernel_rfl) (by simp) ?_
        refine AllReadyH.cons rfl (fun K hK => ?_) AllReadyH.nil
        go_simp
        refine hK.out _ _ ⟨(z_cell_set_ne _ _ _ _ _ _ n1).trans m0, (z_cell_set_ne _ _ _ _ _ _ n1).trans m1, (z_cell_set_ne _ _ _ _ _ _ n1).trans m2, (z_cell_set_ne _ _ _ _ _ _ n2).trans m3, (z_cell_set_ne _ _ _ _ _ _ n2).trans m4, (z_cell_set_ne _ _ _ _ _ _ n3).trans m5⟩ (fun hS => ?_)
        exact wpAnyH_done (by kernel_rfl) ⟨rfl, rfl⟩ _
    obtain ⟨w6, hw6⟩ : ∃ z, w5.setCell ⟨q, 1, none⟩ (.slice A' (N + 1) m') = z := ⟨_, rfl⟩
    rw [hw6] at HB5 ⊢
    have o1 := HB5.out.1.cells.2.1
    clear hw6 m0 m1 m2 m3 m4 m5 g1 g2 f1 f2 f3 f4 f5 k1 k2 l51 l52 l6 HRUN
    go_wp2
    go_ret
    exact ⟨rfl, ⟨_, HB5.out.1⟩, HB5.out.2⟩
end Go.Proofs.YtljaibhhkjapmaaDoor

/- slices.Reverse at edges: the library's contract at this program's numbers; a row's end turned round. -/
namespace Go.Proofs
open Go.Shelf
def Tryd.lays35e_ren : Go.Shelf.Ren := ⟨fun | 35 => 102 | n => n, fun | 22 => 81 | 23 => 95 | 3 => 3 | 4 => 4 | 0 => 0 | n => n, fun | n => n⟩
theorem Tryd.lays35e : Go.Proofs.SlLaysE0.n35 Tryd.prog Tryd.lays35e_ren := {
  mixed := by kernel_rfl
  f35 := ⟨Tryd.f102.name, by decide, Tryd.func102.trans (congrArg some (by kernel_rfl))⟩
  t0 := Tryd.underlying0
  a0 := Tryd.isAgg0
  z0 := Tryd.sizeOf0
  v0 := Tryd.zeroValue0
  t3 := Tryd.underlying3
  a3 := Tryd.isAgg3
  z3 := Tryd.sizeOf3
  v3 := Tryd.zeroValue3
  t4 := Tryd.underlying4
  a4 := Tryd.isAgg4
  z4 := Tryd.sizeOf4
  v4 := Tryd.zeroValue4
  t22 := Tryd.underlying81
  a22 := Tryd.isAgg81
  z22 := Tryd.sizeOf81
  v22 := Tryd.zeroValue81 }
end Go.Proofs
namespace Go.Proofs.YtljaibhhkjapmaaDoor
open Go.RowKit Go.Shelf Go.Sort
set_option linter.unusedSimpArgs false
set_option linter.unusedVariables false

theorem flat_ed (l : List Edg) (t : Nat) (ht : t < l.length * 3) : (flatK edCell 3 l.toArray)[t]! = (gCells edCell l)[t]'(by rw [gCells_len ed_ln]; exact ht) := by
  rw [get_flatK edCell 3 l.toArray t (by simpa using ht)]
  have hq : t / 3 < l.length := by omega
  have h3 := gCells_at ed_ln l (t / 3) (t % 3) l[t / 3] (List.getElem?_eq_getElem hq) (Nat.mod_lt _ (by decide))
  rw [show t / 3 * 3 + t % 3 = t by omega] at h3
  rw [getElem!_pos l.toArray (t / 3) (by simpa using hq)]
  have hm : t % 3 < (edCell l[t / 3]).length := by show t % 3 < 3; omega
  rw [List.getElem?_eq_getElem (by rw [gCells_len ed_ln]; exact ht), List.getElem?_eq_getElem hm] at h3
  rw [getElem!_pos _ (t % 3) (by simpa using hm)]
  simpa using (Option.some.inj h3).symm
theorem rev_end (base g n cap : Nat) (E0 E : List Edg) (w : World) (hn : n = E0.length + E.length) (h : w.ownsRow base 95 3 (.slice (some ⟨g, 0, none⟩) n cap) n (gCells edCell (E0 ++ E))) (hl : n ≤ 100000000000000) (A : Option Addr) (c : Nat) (hA : E ≠ [] → A = some ⟨g, E0.length * 3, none⟩) :
    Calls Tryd.prog 102 #[.slice A E.length c] w fun e w' => e = .returned (.tuple #[]) ∧ w'.ownsRow base 95 3 (.slice (some ⟨g, 0, none⟩) n cap) n (gCells edCell (E0 ++ E.reverse)) ∧ w.grownBy w' (some g) := by
  by_cases hE : E = []
  · subst hE
    refine (AnyQ.slices_Reverse_empty Tryd.lays35e A c w).mono ?_
    rintro e w' ⟨rfl, rfl⟩
    exact ⟨rfl, by simpa using h, World.grownBy.refl _ _⟩
  obtain rfl := hA hE
  have hH : HoldsK edCell 3 w g (E0.length * 3) E.toArray := by
    intro j hj
    have hj' : j < E.length * 3 := by simpa using hj
    refine ⟨?_, own_thaw h _⟩
    rw [flat_ed E j hj']
    rcases h.2 with ⟨h0, _⟩ | ⟨g', cap', cur, e1, hb, hg, h1, h2, h4, h5⟩
    · cases h0
    · simp only [Value.slice.injEq, Option.some.injEq, Addr.mk.injEq] at e1
      obtain ⟨⟨rfl, _⟩, _, rfl⟩ := e1
      rw [cell_of_row w g _ cur _ (0, 0) hg]
      have e2 : (cur.toList.take (n * 3))[E0.length * 3 + j]? = (gCells edCell (E0 ++ E))[E0.length * 3 + j]? := by rw [h5]
      rw [List.getElem?_take, if_pos (by omega), gCells_append, List.getElem?_append_right (by rw [gCells_len ed_ln]; omega), gCells_len ed_ln, Nat.add_sub_cancel_left, List.getElem?_eq_getElem (l := gCells edCell E) (by rw [gCells_len ed_ln]; exact hj')] at e2
      simpa using e2
  have c0 := AnyQ.slices_Reverse Tryd.lays35e 3 Tryd.isAgg95 Tryd.sizeOf95 edCell (fun _ => rfl) ed_one g (E0.length * 3) c E.toArray w hH (by simp; omega)
  rw [show (E.toArray).size = E.length by simp] at c0
  refine Calls.mono c0 ?_
  rintro e w' ⟨rfl, k, rfl⟩
  have hrv : E.toArray.reverse = E.reverse.toArray := by simp
  rw [hrv]
  have hblk : ∀ b, b ≠ g → (putRowK edCell 3 (Sort.ahead w k) g (E0.length * 3) E.reverse.toArray).heap[b]? = w.heap[b]? := fun b hb => by
    show (Array.modify _ _ _)[b]? = _
    rw [Array.getElem?_modify, if_neg (fun e => hb e.symm)]
    rfl
  have hsz : (putRowK edCell 3 (Sort.ahead w k) g (E0.length * 3) E.reverse.toArray).heap.size = w.heap.size := by
    show (Array.modify _ _ _).size = _
    rw [Array.size_modify]
    rfl
  refine ⟨rfl, ?_, ⟨rfl, rfl, rfl, Nat.le_of_eq hsz.symm, fun b hb hne => hblk b (fun e => hne (by rw [e]))⟩⟩
  rcases h.2 with ⟨h0, _⟩ | ⟨g', cap', cur, e1, hb, hg, h1, h2, h4, h5⟩
  · cases h0
  · simp only [Value.slice.injEq, Option.some.injEq, Addr.mk.injEq] at e1
    obtain ⟨⟨rfl, _⟩, _, rfl⟩ := e1
    refine ⟨by rw [gCells_len ed_ln, List.length_append, List.length_reverse, hn], .inr ⟨g, cap, putCells id (E0.length * 3) (flatK edCell 3 E.reverse.toArray) cur, rfl, hb, ?_, h1, h2, by simp [putCells, h4], ?_⟩⟩
    · show (Array.modify w.heap g _)[g]? = _
      rw [Array.getElem?_modify, if_pos rfl, hg]
      rfl
    · apply List.ext_getElem?
      intro i
      rw [List.getElem?_take]
      by_cases hi : i < n * 3
      · rw [if_pos hi]
        have hic : i < cur.size := by rw [h4]; have := Nat.mul_le_mul_right 3 h1; omega
        have e2 : (cur.toList.take (n * 3))[i]? = (gCells edCell (E0 ++ E))[i]? := by rw [h5]
        rw [List.getElem?_take, if_pos hi] at e2
        have e3 : (putCells id (E0.length * 3) (flatK edCell 3 E.reverse.toArray) cur).toList[i]? = some (if E0.length * 3 ≤ i ∧ i < E0.length * 3 + E.length * 3 then (flatK edCell 3 E.reverse.toArray)[i - E0.length * 3]! else cur[i]) := by
          rw [Array.getElem?_toList]
          simp only [putCells, Array.getElem?_mapIdx, Array.getElem?_eq_getElem hic, Option.map_some, size_flatK, List.size_toArray, List.length_reverse, id]
        rw [e3, gCells_append]
        by_cases hlt : i < E0.length * 3
        · rw [if_neg (by omega), List.getElem?_append_left (by rw [gCells_len ed_ln]; exact hlt)]
          rw [gCells_append, List.getElem?_append_left (by rw [gCells_len ed_ln]; exact hlt)] at e2
          rw [← e2, Array.getElem?_toList, Array.getElem?_eq_getElem hic]
        · rw [if_pos (by omega), List.getElem?_append_right (by rw [gCells_len ed_ln]; omega), gCells_len ed_ln, flat_ed E.reverse (i - E0.length * 3) (by rw [List.length_reverse]; omega)]
          rw [List.getElem?_eq_getElem (by rw [gCells_len ed_ln, List.length_reverse]; omega)]
      · rw [if_neg hi, List.getElem?_eq_none (by rw [gCells_len ed_ln, List.length_append, List.length_reverse]; omega)]
end Go.Proofs.YtljaibhhkjapmaaDoor

