/- Texts that several proofs of this seat share, one behind the other: MGrow MChild APlain BPlain NRow ATable GSame. -/
import Derived.Test.YtbbkkoeipkigdaaDoorPk2
import Derived.Test.YtbbkkoeipkigdaaDoorPk3
import Derived.RangeFuncBox
import Derived.BigQuiet
import Derived.BigRegion
import Derived.StillTailTactics
import Derived.Test.YtbbkkoeipkigdaaDoorPk1
import Derived.Test.YtbbkkoeipkigdaaDoorProg
import Derived.OwnWalk
/- A machine as it grows: its states in a row of its own, its map; match's child. -/
namespace Go.Proofs.YtbbkkoeipkigdaaDoor
open Go.RowKit Go.Shelf
set_option linter.unusedSimpArgs false
set_option linter.unusedVariables false

theorem info_state : (Tryd.prog.info? 65).map (fun i => (i.zero, i.size, i.bytes)) = some (some (.agg #[.int .i64 0, .int .i64 0, .slice none 0 0]), 3, 40) := by kernel_rfl
/-- append, as it is run, where the region draws. -/
theorem step_append8 {P : Program} {ops : Array Oper} {o : Oper} {a : Act} {w : World} {K : Act → World → Prop} {Q : Exit → Act → World → Prop} {E : Prop} (hgd : o.guard = none) (s x : Operand) (t : TypeId) (v u v' : Value) (w' : World)
    (ho : o.op = .call { callee := .builtin .append, args := #[s, x], argTypes := #[t, t] }) (hrun : (Builtin.append_ #[t, t] o.type #[v, u]).run P w = .ok v' w') (hs : a.eval s = v) (hx : a.eval x = u)
    (h : K (a.put o.dst v') w') : if Region.wanted o (yielded ops a.tmps) = true then Oper.wp P o a w K Q else E := by
  have hw : Region.wanted o (yielded ops a.tmps) = true := by simp [Region.wanted, hgd]
  rw [if_pos hw]
  unfold Oper.wp
  simp [execOp, ho, resolve, invoke, builtin, hs, hx, hrun, Result.andThen]
  exact h
/-- A region that comes to one end. -/
def OnlyAt8 (F : Act) (W : World) : Exit → Act → World → Prop
  | .normal, a, w => a = F ∧ w = W
  | _, _, _ => False
theorem wp_region_at8 {P : Program} {id : Nat} {ops : Array Oper} {b : Bool} {Q : Exit → Act → World → Prop} {a : Act} {w : World} (F : Act) (W : World)
    (h1 : (Code.region id ops b).wp P (OnlyAt8 F W) a w) (h2 : Q .normal F W) : (Code.region id ops b).wp P Q a w :=
  Code.wp_mono (fun e a w h => by
    cases e
    case normal => obtain ⟨rfl, rfl⟩ := h; exact h2
    all_goals exact (h : False).elim) h1
/-- A state's cells while rules aren't told yet. -/
def stE (T : List (List Int)) (s : List Int) : List Value := [.int .i64 (s.length : Nat), .int .i64 (numT T (failP (inT T) s) : Nat), .slice none 0 0]
theorem stE_ln (T : List (List Int)) (s : List Int) : (stE T s).length = 3 := rfl
def st3 (x : Nat × Nat) : List Value := [.int .i64 (x.1 : Int), .int .i64 (x.2 : Int), .slice none 0 0]
theorem st3_one (x : Nat × Nat) : ∀ u ∈ st3 x, u.oneCell' = true := by
  intro u hu
  simp only [st3, List.mem_cons, List.mem_nil_iff, or_false] at hu
  rcases hu with rfl | rfl | rfl <;> rfl

/-- A machine that grows: it lies at p, its map at mp, both below b2; the row of its states is the call's own. -/
structure Grw (w : World) (b2 p mp : Nat) (mv : Value) (T : List (List Int)) : Prop where
  ok : TreeOk T
  len : T.length ≤ 900000
  ne : mp ≠ p
  lo : p < b2 ∧ mp < b2
  row : w.heap[p]? = some (.cells #[.int .i64 0, .int .i64 0, .slice none 0 0, mv, .map (some mp)] 68 (0, 0))
  own : w.ownsRow b2 65 3 mv (T.length - 1) (gCells (stE T) T.tail)
  map : ∃ D, EdgMap w mp (T.length - 1) D ∧ ViewE D T
theorem tree_form {T : List (List Int)} (h : TreeOk T) : T = [] :: T.tail := by
  cases T with
  | nil => exact absurd h.head (by simp)
  | cons a T => have := h.zero (s := a) rfl; subst this; rfl
theorem Grw.reads {w : World} {b2 p mp : Nat} {mv : Value} {T : List (List Int)} (h : Grw w b2 p mp mv T) : ∃ A c g, mv = .slice A (T.length - 1) c ∧ MachR w p A c g mp T (fun _ => []) := by
  have hl := h.len
  have hpos := h.ok.pos
  have hcell : ∀ j, w.cell? ⟨p, j, none⟩ = (#[.int .i64 0, .int .i64 0, .slice none 0 0, mv, .map (some mp)] : Array Value)[j]? := fun j => cell_of_row _ _ _ _ _ _ h.row
  have hfirst : numT T (failP (inT T) []) = 0 := numT_nil h.ok
  have key : ∀ (A : Option Addr) (c g : Nat), mv = .slice A (T.length - 1) c → T.length - 1 ≤ c → c ≤ maxLen → (1 < T.length → A = some ⟨g, 0, none⟩) → (∀ m s, T.tail[m]? = some s → ∀ j u, (stE T s)[j]? = some u → w.cell? ⟨g, m * 3 + j, none⟩ = some u) → MachR w p A c g mp T (fun _ => []) := by
    intro A c g e h1 h2 hA hc
    subst e
    refine ⟨h.ok, by omega, by rw [hcell]; rfl, ⟨h1, h2⟩, hA, by rw [hcell]; rfl, fun n s hs => ?_, ?_⟩
    · by_cases h0 : n = 0
      · subst h0
        have := h.ok.zero hs
        subst this
        refine ⟨?_, ?_, .slice none 0 0, ?_, GRuns.nil_ _ _ _⟩
        · rw [adM_zero, hcell]; rfl
        · rw [adM_zero, hcell, hfirst]; rfl
        · rw [adM_zero, hcell]; rfl
      · obtain ⟨m, rfl⟩ : ∃ m, n = m + 1 := ⟨n - 1, by omega⟩
        have hs' : T.tail[m]? = some s := by
          rw [tree_form h.ok] at hs
          simpa using hs
        refine ⟨?_, ?_, .slice none 0 0, ?_, GRuns.nil_ _ _ _⟩
        · rw [adM_pos p g h0]; exact hc m s hs' 0 _ rfl
        · rw [adM_pos p g h0]; exact hc m s hs' 1 _ rfl
        · rw [adM_pos p g h0]; exact hc m s hs' 2 _ rfl
    · obtain ⟨D, hD, hV⟩ := h.map
      exact ⟨_, D, hD, hV⟩
  rcases h.own.2 with ⟨e, h0⟩ | ⟨g, cap, cur, e, hb, hg, h1, h2, h3, h4⟩
  · refine ⟨none, 0, 0, by rw [e, h0], key none 0 0 (by rw [e, h0]) (by omega) (by simp [maxLen]) (by omega) (fun m s hs => ?_)⟩
    have := (List.getElem?_eq_some_iff.1 hs).1
    rw [List.length_tail] at this
    omega
  · refine ⟨some ⟨g, 0, none⟩, cap, g, e, key _ cap g e h1 h2 (fun _ => rfl) (fun m s hs j u hu => ?_)⟩
    have hj : j < 3 := (List.getElem?_eq_some_iff.1 hu).1
    have hm := (List.getElem?_eq_some_iff.1 hs).1
    rw [List.length_tail] at hm
    rw [cell_of_row w g _ cur _ (0, 0) hg]
    have h5 := gCells_at (stE_ln T) T.tail m j s hs hj
    rw [← h4, List.getElem?_take, if_pos (by omega), hu] at h5
    simpa using h5
/-- Where the heap is the same, so is the machine. -/
theorem Grw.moved {w w' : World} {b2 p mp : Nat} {mv : Value} {T : List (List Int)} (h : Grw w b2 p mp mv T) (hb : Below w.heap.size w w') : Grw w' b2 p mp mv T := by
  refine ⟨h.ok, h.len, h.ne, h.lo, (hb.block p (Array.getElem?_eq_some_iff.1 h.row).1).trans h.row, ?_, ?_⟩
  · have hg : w.grownBy w' none := ⟨hb.os, hb.tape, hb.output, hb.size, fun k hk _ => hb.block k hk⟩
    exact h.own.kept hg (by cases mv.ownBlock <;> simp)
  · obtain ⟨D, hD, hV⟩ := h.map
    obtain ⟨es, clock, hx, rest⟩ := hD
    exact ⟨D, ⟨es, clock, (hb.block mp (Array.getElem?_eq_some_iff.1 hx).1).trans hx, rest⟩, hV⟩
theorem stE_add {T : List (List Int)} (hT : TreeOk T) {t s : List Int} (hs : s ∈ T) (hl : s.length ≤ t.length) (ht : 0 < t.length) : stE (T ++ [t]) s = stE T s := by
  unfold stE
  rw [failP_add hl ht, numT_append _ (fail_in hT s)]
theorem gCells_same {α : Type} {e e' : α → List Value} {l : List α} (h : ∀ x ∈ l, e x = e' x) : gCells e l = gCells e' l := by
  induction l with
  | nil => rfl
  | cons a l ih =>
    show e a ++ gCells e l = e' a ++ gCells e' l
    rw [h a (by simp), ih (fun x hx => h x (by simp [hx]))]
/-- The row of states with one more. -/
theorem stE_more {T : List (List Int)} (hT : TreeOk T) {t : List Int} (hl : ∀ u ∈ T, u.length ≤ t.length) (ht : 0 < t.length) : gCells (stE (T ++ [t])) (T ++ [t]).tail = gCells (stE T) T.tail ++ stE (T ++ [t]) t := by
  have e : (T ++ [t]).tail = T.tail ++ [t] := by
    rw [tree_form hT]; rfl
  rw [e, gCells_snoc, gCells_same (e := stE (T ++ [t])) (e' := stE T) (fun x hx => stE_add hT (List.mem_of_mem_tail hx) (hl x (List.mem_of_mem_tail hx)) ht)]

/-- Nothing but two blocks, and perhaps a third one, has turned. -/
def OnlyM (ob : Option Nat) (p mp : Nat) (w w' : World) : Prop := Below 0 w w' ∧ ∀ k, k < w.heap.size → k ≠ p → k ≠ mp → ob ≠ some k → w'.heap[k]? = w.heap[k]?
theorem OnlyM.refl (ob : Option Nat) (p mp : Nat) (w : World) : OnlyM ob p mp w w := ⟨Below.refl _ _, fun _ _ _ _ _ => rfl⟩
theorem OnlyM.trans {ob : Option Nat} {p mp : Nat} {a b c : World} (h : OnlyM ob p mp a b) (g : OnlyM ob p mp b c) : OnlyM ob p mp a c := ⟨h.1.trans g.1, fun k hk h1 h2 h3 => (g.2 k (Nat.lt_of_lt_of_le hk h.1.size) h1 h2 h3).trans (h.2 k hk h1 h2 h3)⟩
theorem OnlyM.of_below {ob : Option Nat} {p mp : Nat} {w w' : World} (h : Below w.heap.size w w') : OnlyM ob p mp w w' := ⟨h.mono (Nat.zero_le _), fun k hk _ _ _ => h.block k hk⟩

/-- append(m.more, s): as it is run. -/
theorem Grw.push {w : World} {b2 p mp : Nat} {mv : Value} {T : List (List Int)} (h : Grw w b2 p mp mv T) (hb2 : b2 ≤ w.heap.size) (hlen : T.length ≤ 800000) {s : List Int} {c : Int} (hs : s ∈ T) (hn : s ++ [c] ∉ T) (hl : ∀ u ∈ T, u.length ≤ s.length + 1) (k : Nat) (hk : k = numT (T ++ [s ++ [c]]) (failP (inT (T ++ [s ++ [c]])) (s ++ [c]))) :
    ∃ g' c' w', (Builtin.append_ #[66, 66] 66 #[mv, .slice (some ⟨w.heap.size, 0, none⟩) 1 1]).run Tryd.prog (w.alloc (.cells #[.int .i64 ((s.length + 1 : Nat) : Int), .int .i64 (k : Int), .slice none 0 0] 65)) = .ok (.slice (some ⟨g', 0, none⟩) T.length c') w' ∧
      w'.heap[p]? = some (.cells #[.int .i64 0, .int .i64 0, .slice none 0 0, mv, .map (some mp)] 68 (0, 0)) ∧
      w'.ownsRow b2 65 3 (.slice (some ⟨g', 0, none⟩) T.length c') T.length (gCells (stE (T ++ [s ++ [c]])) (T ++ [s ++ [c]]).tail) ∧ b2 ≤ g' ∧ (∃ D, EdgMap w' mp (T.length - 1) D ∧ ViewE D T) ∧ OnlyM mv.ownBlock p mp w w' ∧ (some g' = mv.ownBlock ∨ w.heap.size ≤ g') := by
  have hpos := h.ok.pos
  obtain ⟨v', w', hrun, hown, hg, hob⟩ := append_one (P := Tryd.prog) (enc := st3) (k := 3) (fun _ => rfl) st3_one info_state rfl (by decide) (by decide) Tryd.underlying66 w b2 mv (T.length - 1) (gCells (stE T) T.tail) h.own (s.length + 1, k) hb2 (by omega)
  have hg1 : w.grownBy w' mv.ownBlock := (World.grownBy_alloc _ _ _).trans hg
  have e1 : st3 (s.length + 1, k) = stE (T ++ [s ++ [c]]) (s ++ [c]) := by
    unfold st3 stE
    rw [← hk]
    simp
  rw [e1, ← stE_more h.ok (fun u hu => by simpa using hl u hu) (by simp), show T.length - 1 + 1 = T.length by omega] at hown
  obtain ⟨g', c', rfl⟩ : ∃ g c, v' = .slice (some ⟨g, 0, none⟩) T.length c := by
    have := ownsRow_succ (k := T.length - 1) (by rw [show T.length - 1 + 1 = T.length by omega]; exact hown)
    rwa [show T.length - 1 + 1 = T.length by omega] at this
  have hne : ∀ k, k < b2 → mv.ownBlock ≠ some k := fun k hk e => by
    have := own_block h.own k e
    omega
  have hkept : ∀ k, k < b2 → w'.heap[k]? = w.heap[k]? := fun k hk => hg1.block k (by omega) (fun e => hne k hk e.symm)
  refine ⟨g', c', w', hrun, (hkept p h.lo.1).trans h.row, hown, own_block hown g' rfl, ?_, ⟨(Below.refl 0 w).grown hg1 (Nat.zero_le _) (fun _ _ => Nat.zero_le _), fun k hk _ _ h3 => hg1.block k hk (fun e => h3 e.symm)⟩, ?_⟩
  · obtain ⟨D, hD, hV⟩ := h.map
    obtain ⟨es, clock, hx, rest⟩ := hD
    exact ⟨D, ⟨es, clock, (hkept mp h.lo.2).trans hx, rest⟩, hV⟩
  · rcases hob with e | e
    · exact .inl e
    · right
      have : g' = w.heap.size + 1 := by simpa [Value.ownBlock] using e
      omega
/-- Behind the store and the map's entry: the machine with a state more. -/
theorem Grw.done {w w2 w4 : World} {b2 p mp : Nat} {mv v' : Value} {T : List (List Int)} (h : Grw w b2 p mp mv T) (hlen : T.length ≤ 800000) {s : List Int} {c : Int} (hs : s ∈ T) (hn : s ++ [c] ∉ T)
    (hrow : w2.heap[p]? = some (.cells #[.int .i64 0, .int .i64 0, .slice none 0 0, mv, .map (some mp)] 68 (0, 0)))
    (hown : w2.ownsRow b2 65 3 v' T.length (gCells (stE (T ++ [s ++ [c]])) (T ++ [s ++ [c]]).tail))
    {D : DataW Unit} (hD : EdgMap w4 mp T.length D) (hV : ViewE D (T ++ [s ++ [c]])) (hg : (w2.setCell ⟨p, 3, none⟩ v').drew.grownBy w4 (some mp)) : Grw w4 b2 p mp v' (T ++ [s ++ [c]]) := by
  have hlo := h.lo
  have hlt : p < w2.heap.size := (Array.getElem?_eq_some_iff.1 hrow).1
  have hsz : (w2.setCell ⟨p, 3, none⟩ v').heap.size = w2.heap.size := by
    show (w2.heap.modify _ _).size = _
    rw [Array.size_modify]
  refine ⟨h.ok.add hs hn, by simp; omega, h.ne, h.lo, ?_, ?_, D, by simpa using hD, hV⟩
  · rw [hg.block p (by show p < (w2.setCell _ _).heap.size; rw [hsz]; exact hlt) (fun e => h.ne (Option.some.inj e).symm)]
    obtain ⟨_, hk⟩ := Array.getElem?_eq_some_iff.1 hrow
    show (w2.heap.modify p _)[p]? = _
    rw [Array.getElem?_eq_getElem (by rw [Array.size_modify]; exact hlt), Array.getElem_modify_self, hk]
    rfl
  · have h1 : (w2.setCell ⟨p, 3, none⟩ v').ownsRow b2 65 3 v' T.length (gCells (stE (T ++ [s ++ [c]])) (T ++ [s ++ [c]]).tail) := by
      refine hown.kept (row := some p) ⟨rfl, rfl, rfl, by rw [hsz]; exact Nat.le_refl _, fun k _ hk => Below.heap_setCell w2 ⟨p, 3, none⟩ v' k (fun e => hk (by rw [e]))⟩ ?_
      right
      intro e
      have := own_block hown p e
      omega
    have h1' : (w2.setCell ⟨p, 3, none⟩ v').drew.ownsRow b2 65 3 v' T.length (gCells (stE (T ++ [s ++ [c]])) (T ++ [s ++ [c]]).tail) := h1
    have h2 := h1'.kept hg (by
      right
      intro e
      have := own_block hown mp e
      omega)
    simpa using h2
end Go.Proofs.YtbbkkoeipkigdaaDoor

/- match's child: the state behind another one by a rune, laid if there is none yet. -/
namespace Go.Proofs.YtbbkkoeipkigdaaDoor
open Go.RowKit Go.Shelf
set_option linter.unusedSimpArgs false
set_option linter.unusedVariables false

theorem mach_cells {w : World} {p : Nat} {a b c d e : Value} {t : TypeId} (h : w.heap[p]? = some (.cells #[a, b, c, d, e] t (0, 0))) : w.cell? ⟨p, 3, none⟩ = some d ∧ w.cell? ⟨p, 4, none⟩ = some e ∧ (∀ j, w.frozen? ⟨p, j, none⟩ = false) := by
  refine ⟨?_, ?_, ?_⟩
  · rw [cell_of_row _ _ _ _ _ _ h]; rfl
  · rw [cell_of_row _ _ _ _ _ _ h]; rfl
  · intro j; simp [World.frozen?, h]
theorem set_three {w : World} {p : Nat} {cs : Array Value} {t : TypeId} (h : w.heap[p]? = some (.cells cs t (0, 0))) (j : Nat) (u : Value) : (w.setCell ⟨p, j, none⟩ u).heap[p]? = some (.cells (cs.setIfInBounds j u) t (0, 0)) := by
  obtain ⟨hlt, hk⟩ := Array.getElem?_eq_some_iff.1 h
  show (w.heap.modify p _)[p]? = _
  rw [Array.getElem?_eq_getElem (by rw [Array.size_modify]; exact hlt), Array.getElem_modify_self, hk]
  rfl
theorem cells_three {w : World} {p : Nat} {a b c : Value} {t : TypeId} (h : w.heap[p]? = some (.cells #[a, b, c] t (0, 0))) : w.cell? ⟨p, 0, none⟩ = some a ∧ w.cell? ⟨p, 1, none⟩ = some b ∧ w.cell? ⟨p, 2, none⟩ = some c ∧ (∀ j, w.frozen? ⟨p, j, none⟩ = false) := by
  refine ⟨?_, ?_, ?_, ?_⟩
  · rw [cell_of_row _ _ _ _ _ _ h]; rfl
  · rw [cell_of_row _ _ _ _ _ _ h]; rfl
  · rw [cell_of_row _ _ _ _ _ _ h]; rfl
  · intro j; simp [World.frozen?, h]
theorem cell_set_off (w : World) (p i j : Nat) (u : Value) (h : i ≠ j) : (w.setCell ⟨p, i, none⟩ u).cell? ⟨p, j, none⟩ = w.cell? ⟨p, j, none⟩ := World.cell?_setCell_other w _ _ u (by simp [Ne.symm h])
/-- What child leaves. -/
def ChildPost (b2 p mp : Nat) (mv : Value) (T : List (List Int)) (s : List Int) (r : Int) (w : World) (e : Ending) (w' : World) : Prop :=
  ∃ (k : Nat) (mv' : Value) (T' : List (List Int)), e = .returned (.int .i64 (k : Int)) ∧ Grw w' b2 p mp mv' T' ∧ T'[k]? = some (s ++ [r]) ∧ (∀ u, u ∈ T' ↔ u ∈ T ∨ u = s ++ [r]) ∧ (∀ (j : Nat) u, T[j]? = some u → T'[j]? = some u) ∧ T'.length ≤ T.length + 1 ∧ OnlyM mv.ownBlock p mp w w' ∧ (mv'.ownBlock = mv.ownBlock ∨ ∃ g, mv'.ownBlock = some g ∧ w.heap.size ≤ g)

/-- The last part: the state is laid. -/
theorem child_end {w w2 : World} {b2 p mp g' c' : Nat} {mv : Value} {T : List (List Int)} (h : Grw w b2 p mp mv T) (hlen : T.length ≤ 800000) {n : Nat} {s : List Int} {r : Int} (hs : T[n]? = some s) (hn : s ++ [r] ∉ T) (hr : (Lit.int .i32 r).wf = true)
    (hrow : w2.heap[p]? = some (.cells #[.int .i64 0, .int .i64 0, .slice none 0 0, mv, .map (some mp)] 68 (0, 0)))
    (hown : w2.ownsRow b2 65 3 (.slice (some ⟨g', 0, none⟩) T.length c') T.length (gCells (stE (T ++ [s ++ [r]])) (T ++ [s ++ [r]]).tail)) (ho : OnlyM mv.ownBlock p mp w w2)
    (hD : ∃ D, EdgMap w2 mp (T.length - 1) D ∧ ViewE D T) :
    ∃ w4, (Instr.mapUpdate 63 (.map (some mp)) (.agg #[.int .i64 (n : Int), .int .i32 r]) (.int .i64 (T.length : Nat))).run Tryd.prog (w2.setCell ⟨p, 3, none⟩ (.slice (some ⟨g', 0, none⟩) T.length c')).drew = .ok () w4 ∧
      w4.cell? ⟨p, 3, none⟩ = some (.slice (some ⟨g', 0, none⟩) T.length c') ∧ Grw w4 b2 p mp (.slice (some ⟨g', 0, none⟩) T.length c') (T ++ [s ++ [r]]) ∧ OnlyM mv.ownBlock p mp w w4 := by
  have hlo := h.lo
  have hpos := h.ok.pos
  obtain ⟨D, hD, hV⟩ := hD
  have hlt : p < w2.heap.size := (Array.getElem?_eq_some_iff.1 hrow).1
  have hnl := (List.getElem?_eq_some_iff.1 hs).1
  have hsz : (w2.setCell ⟨p, 3, none⟩ (.slice (some ⟨g', 0, none⟩) T.length c')).heap.size = w2.heap.size := by
    show (w2.heap.modify _ _).size = _
    rw [Array.size_modify]
  have h3 : EdgMap (w2.setCell ⟨p, 3, none⟩ (.slice (some ⟨g', 0, none⟩) T.length c')).drew mp (T.length - 1) D := hD.setCell (a := ⟨p, 3, none⟩) h.ne _
  obtain ⟨w4, hrun, h4, hg⟩ := h3.update (t := 63) (e := 3) edge_keyed Tryd.underlying63 (by unfold maxLen; omega) (keyOf_edge n r (wf_nat (by omega)) hr) (plainElem_int Tryd.underlying3 (wf_nat (n := T.length) (by omega)))
  rw [show T.length - 1 + 1 = T.length by omega] at h4
  have hV' := hV.put hD.isMap h.ok (by omega) hs hn hr
  have hG := h.done hlen (List.mem_of_getElem? hs) hn hrow hown h4 hV' hg
  refine ⟨w4, hrun, (mach_cells hG.row).1, hG, ho.trans ⟨(((Below.refl 0 w2).setCell (p := ⟨p, 3, none⟩) (Nat.zero_le _) _).drew).grown hg (Nat.zero_le _) (fun _ _ => Nat.zero_le _), fun k hk h1 h2 _ => ?_⟩⟩
  rw [hg.block k (by show k < (w2.setCell _ _).heap.size; rw [hsz]; exact hk) (fun e => h2 (Option.some.inj e))]
  exact Below.heap_setCell w2 ⟨p, 3, none⟩ _ k h1

set_option maxRecDepth 100000 in
set_option maxHeartbeats 8000000 in
theorem child_any (w : World) (b2 p mp n : Nat) (mv : Value) (T : List (List Int)) (h : Grw w b2 p mp mv T) (hb2 : b2 ≤ w.heap.size) (hlen : T.length ≤ 800000) (s : List Int) (r : Int) (hn : T[n]? = some s) (hr : (Lit.int .i32 r).wf = true) (hl : ∀ u ∈ T, u.length ≤ s.length + 1) (hsl : s.length ≤ 1000) :
    Calls Tryd.prog 51 #[.pointer (some ⟨p, 0, none⟩), .int .i64 (n : Int), .int .i32 r] w (ChildPost b2 p mp mv T s r w) := by
  obtain ⟨A, c, g, emv, hM⟩ := h.reads
  subst emv
  have c3 := hM.more
  have c4 := hM.nx
  obtain ⟨k, hlk, hk⟩ := hM.look n s r hn hr
  cases hin : inT T (s ++ [r]) with
  | true =>
    rw [hin] at hlk
    have HK := Lib.hid (hk hin)
    have HE : Hid (∀ u, u ∈ T ↔ u ∈ T ∨ u = s ++ [r]) := Lib.hid (fun u => ⟨.inl, fun e => by
      rcases e with e | rfl
      · exact e
      · exact inT_mem.1 hin⟩)
    have HG := Lib.hid h
    clear hk hin hM h
    go_enter Tryd.func51, Tryd.ntmps51
    go_wp2
    go_ret
    exact ⟨k, _, T, rfl, HG.out, HK.out, HE.out, fun _ _ h => h, by omega, OnlyM.refl _ _ _ _, .inl rfl⟩
  | false =>
    rw [hin] at hlk
    have hnin := inT_not.1 hin
    have hT := h.ok
    have hlt := (List.getElem?_eq_some_iff.1 hn).1
    have cst := state_any w p c g mp n A T _ hM hlt
    obtain ⟨hc0, hc1, _⟩ := hM.st n s hn
    have hfm := fail_in hT s
    have hnum := numT_at hfm
    obtain ⟨f, hf⟩ : ∃ f, numT T (failP (inT T) s) = f := ⟨_, rfl⟩
    rw [hf] at hc1 hnum
    obtain ⟨q, hq⟩ : ∃ q, s.length = q := ⟨_, rfl⟩
    rw [hq] at hc0
    have hwr : IntKind.i64.wrap ((q : Int) + 1) = (q : Int) + 1 := by rw [IntKind.wrap_i64]; omega
    have hba : Below w.heap.size w (w.alloc (.cells #[.int .i64 ((q : Int) + 1), .int .i64 0, .slice none 0 0] 65)) := (Below.refl _ _).alloc (Nat.le_refl _) _
    have hnb := heap_alloc_new w (.cells #[.int .i64 ((q : Int) + 1), .int .i64 0, .slice none 0 0] 65)
    have HC := Lib.hid cst
    by_cases h0 : n = 0
    · subst h0
      have e0 := hT.zero hn
      have HKF : 0 = numT (T ++ [s ++ [r]]) (failP (inT (T ++ [s ++ [r]])) (s ++ [r])) := by
        rw [e0] at hnin ⊢
        rw [fail_first, numT_nil (hT.add hT.nil_mem hnin)]
      rw [adM_zero] at hc0 hc1 HC
      change (Instr.lookup 63 (.map (some mp)) (.agg #[.int .i64 0, .int .i32 r]) true).run Tryd.prog w = _ at hlk
      change Hid (Calls Tryd.prog 29 #[.pointer (some ⟨p, 0, none⟩), .int .i64 0] w _) at HC

      obtain ⟨wb, hwb⟩ : ∃ z, w.alloc (.cells #[.int .i64 ((q : Int) + 1), .int .i64 0, .slice none 0 0] 65) = z := ⟨_, rfl⟩
      have Bb : Below w.heap.size w wb := by rw [← hwb]; exact hba
      have hbx : wb.heap[w.heap.size]? = some (.cells #[.int .i64 ((q : Int) + 1), .int .i64 (0 : Int), .slice none 0 0] 65 (0, 0)) := by rw [← hwb]; exact hnb
      have HGb := Lib.hid (h.moved Bb)
      have hszb : w.heap.size ≤ wb.heap.size := Bb.size
      obtain ⟨g', c', w2, hrun2, hrow2, hown2, hg2, hD2, ho2, hob2⟩ := Grw.push (w := wb.drew) (HGb.out.moved ((Below.refl _ wb).drew)) (Nat.le_trans hb2 hszb) hlen (List.mem_of_getElem? hn) hnin hl 0 HKF
      have ho02 : OnlyM (Value.slice A (T.length - 1) c).ownBlock p mp w w2 := (show OnlyM _ p mp w wb.drew from OnlyM.of_below (w' := wb.drew) Bb.drew).trans ho2
      obtain ⟨w4, hrun4, hc4, hG4, ho4⟩ := child_end h hlen hn hnin hr hrow2 hown2 ho02 hD2
      obtain ⟨x0, x1, x2, x3⟩ := cells_three hbx
      obtain ⟨y3, y4, yf⟩ := mach_cells HGb.out.row
      obtain ⟨z3, z4, zf⟩ := mach_cells hrow2
      have z3f := zf 3
      obtain ⟨m1, hm1⟩ : ∃ z, T.length - 1 = z := ⟨_, rfl⟩
      rw [hm1] at hrun2 y3 z3
      obtain ⟨m, hm⟩ : ∃ m, T.length = m := ⟨_, rfl⟩
      rw [hm] at hrun2 hrun4 hc4 hG4
      rw [hq, show (((q + 1 : Nat)) : Int) = (q : Int) + 1 from rfl] at hrun2
      have HEN : Hid (ChildPost b2 p mp (.slice A (T.length - 1) c) T s r w (.returned (.int .i64 (m : Int))) w4) := Lib.hid ⟨m, _, T ++ [s ++ [r]], rfl, hG4, by rw [← hm]; simp, fun u => by simp, fun j u hj => by rw [List.getElem?_append_left (List.getElem?_eq_some_iff.1 hj).1]; exact hj, by simp, ho4, by
        rcases hob2 with e | e
        · exact .inl e
        · exact .inr ⟨g', rfl, Nat.le_trans hszb e⟩⟩
      have k3 : (w2.setCell ⟨p, 3, none⟩ (.slice (some ⟨g', 0, none⟩) m c')).cell? ⟨p, 3, none⟩ = some (.slice (some ⟨g', 0, none⟩) m c') := World.cell?_setCell_same' _ _ _ (by rw [z3]; rfl)
      have k4 : (w2.setCell ⟨p, 3, none⟩ (.slice (some ⟨g', 0, none⟩) m c')).cell? ⟨p, 4, none⟩ = some (.map (some mp)) := by rw [cell_set_off w2 p 3 4 _ (by omega)]; exact z4
      have HWB := Lib.hid hwb
      have y3a : (wb.alloc (.cells #[.int .i64 ((q : Int) + 1), .int .i64 (0 : Int), .slice none 0 0] 65)).cell? ⟨p, 3, none⟩ = some (.slice A m1 c) := (World.cell?_of_block (Below.heap_alloc wb _ p (mcell_lt y3))).trans y3
      have y3b : (wb.alloc (.cells #[.int .i64 ((q : Int) + 1), .int .i64 (0 : Int), .slice none 0 0] 65)).drew.cell? ⟨p, 3, none⟩ = some (.slice A m1 c) := y3a
      change (Builtin.append_ #[66, 66] 66 #[.slice A m1 c, .slice (some ⟨wb.heap.size, 0, none⟩) 1 1]).run Tryd.prog (wb.alloc (.cells #[.int .i64 ((q : Int) + 1), .int .i64 (0 : Int), .slice none 0 0] 65)).drew = _ at hrun2
      change (Instr.mapUpdate 63 (.map (some mp)) (.agg #[.int .i64 0, .int .i32 r]) (.int .i64 (m : Int))).run Tryd.prog (w2.setCell ⟨p, 3, none⟩ (.slice (some ⟨g', 0, none⟩) m c')).drew = _ at hrun4
      clear hba hnb hM h hk hin hnin hT hlt hfm hnum hf hq HKF HGb hszb hown2 hD2 ho2 hob2 ho02 hG4 ho4 Bb hbx hwb zf yf hrow2 hl hn hm e0 hm1 c3 x3
      go_enter Tryd.func51, Tryd.ntmps51
      go_wp2_with (go_at_call 29; refine HC.out.mono ?_; rintro e w' ⟨rfl, rfl⟩)
      rw [HWB.out]
      apply wp_region_at8 (W := w2.setCell ⟨p, 3, none⟩ (.slice (some ⟨g', 0, none⟩) m c'))
      · go_region_law ((refine step_append8 ?_ (.tmp 47) (.tmp 49) 66 _ _ _ _ ?_ hrun2 ?_ ?_ ?_; rfl; rfl; go_simp; go_simp))
        all_goals exact ⟨rfl, rfl⟩
      clear hrun2 x0 x1 x2 y3 y4 y3a y3b z3 z4 z3f
      obtain ⟨w3, hw3⟩ : ∃ z, w2.setCell ⟨p, 3, none⟩ (.slice (some ⟨g', 0, none⟩) m c') = z := ⟨_, rfl⟩
      rw [hw3] at hrun4 k3 k4 ⊢
      clear hw3
      go_wp2
      go_region
      go_wp2
      go_ret
      exact HEN.out
    · have hne : ((n : Int) == 0) = false := by simpa using h0
      have hsn := hT.nz hn h0
      rw [adM_pos p g h0] at hc0 hc1 HC
      obtain ⟨o3, ho3⟩ : ∃ z, (n - 1) * 3 = z := ⟨_, rfl⟩
      rw [ho3] at hc0 hc1 HC
      rw [Nat.add_zero] at hc0 HC
      clear ho3
      have hMa := hM.below hba
      obtain ⟨k2, hk2⟩ : ∃ k2, numT T (lsuf (inT T) (failP (inT T) s ++ [r])) = k2 := ⟨_, rfl⟩
      have hk2a := numT_at (lsuf_mem hT (failP (inT T) s ++ [r]))
      rw [hk2] at hk2a
      have HKF : k2 = numT (T ++ [s ++ [r]]) (failP (inT (T ++ [s ++ [r]])) (s ++ [r])) := by
        rw [fail_new hT hsn, numT_append _ (lsuf_mem hT _), hk2]
      have hc1a := (hba.cell (mcell_lt hc1)).trans hc1
      have cstp := step_any _ p c g mp f A T _ hMa (failP (inT T) s) r hnum hr
      have CSTP : Hid (Calls Tryd.prog 56 #[.pointer (some ⟨p, 0, none⟩), .int .i64 (f : Int), .int .i32 r] (w.alloc (.cells #[.int .i64 ((q : Int) + 1), .int .i64 0, .slice none 0 0] 65)) fun e w' => e = .returned (.int .i64 (k2 : Int)) ∧ w' = w.alloc (.cells #[.int .i64 ((q : Int) + 1), .int .i64 0, .slice none 0 0] 65)) := Lib.hid (cstp.mono (by
        rintro e w' ⟨k3, rfl, h3, rfl⟩
        exact ⟨by rw [hT.inj h3 hk2a], rfl⟩))
      have hxs := heap_alloc_new w (.cells #[.int .i64 ((q : Int) + 1), .int .i64 (k2 : Int), .slice none 0 0] 65)
      obtain ⟨v0, v1, v2, v3⟩ := cells_three hnb
      have v31 := v3 1
      have hba2 : Below w.heap.size w (w.alloc (.cells #[.int .i64 ((q : Int) + 1), .int .i64 (k2 : Int), .slice none 0 0] 65)) := (Below.refl _ _).alloc (Nat.le_refl _) _
      obtain ⟨wb, hwb⟩ : ∃ z, w.alloc (.cells #[.int .i64 ((q : Int) + 1), .int .i64 (k2 : Int), .slice none 0 0] 65) = z := ⟨_, rfl⟩
      have Bb : Below w.heap.size w wb := by rw [← hwb]; exact hba2
      have hbx : wb.heap[w.heap.size]? = some (.cells #[.int .i64 ((q : Int) + 1), .int .i64 (k2 : Int), .slice none 0 0] 65 (0, 0)) := by rw [← hwb]; exact hxs
      have HGb := Lib.hid (h.moved Bb)
      have hszb : w.heap.size ≤ wb.heap.size := Bb.size
      obtain ⟨g', c', w2, hrun2, hrow2, hown2, hg2, hD2, ho2, hob2⟩ := Grw.push (w := wb.drew) (HGb.out.moved ((Below.refl _ wb).drew)) (Nat.le_trans hb2 hszb) hlen (List.mem_of_getElem? hn) hnin hl k2 HKF
      have ho02 : OnlyM (Value.slice A (T.length - 1) c).ownBlock p mp w w2 := (show OnlyM _ p mp w wb.drew from OnlyM.of_below (w' := wb.drew) Bb.drew).trans ho2
      obtain ⟨w4, hrun4, hc4, hG4, ho4⟩ := child_end h hlen hn hnin hr hrow2 hown2 ho02 hD2
      obtain ⟨x0, x1, x2, x3⟩ := cells_three hbx
      obtain ⟨y3, y4, yf⟩ := mach_cells HGb.out.row
      obtain ⟨z3, z4, zf⟩ := mach_cells hrow2
      have z3f := zf 3
      obtain ⟨m1, hm1⟩ : ∃ z, T.length - 1 = z := ⟨_, rfl⟩
      rw [hm1] at hrun2 y3 z3
      obtain ⟨m, hm⟩ : ∃ m, T.length = m := ⟨_, rfl⟩
      rw [hm] at hrun2 hrun4 hc4 hG4
      rw [hq, show (((q + 1 : Nat)) : Int) = (q : Int) + 1 from rfl] at hrun2
      have HEN : Hid (ChildPost b2 p mp (.slice A (T.length - 1) c) T s r w (.returned (.int .i64 (m : Int))) w4) := Lib.hid ⟨m, _, T ++ [s ++ [r]], rfl, hG4, by rw [← hm]; simp, fun u => by simp, fun j u hj => by rw [List.getElem?_append_left (List.getElem?_eq_some_iff.1 hj).1]; exact hj, by simp, ho4, by
        rcases hob2 with e | e
        · exact .inl e
        · exact .inr ⟨g', rfl, Nat.le_trans hszb e⟩⟩
      have k3 : (w2.setCell ⟨p, 3, none⟩ (.slice (some ⟨g', 0, none⟩) m c')).cell? ⟨p, 3, none⟩ = some (.slice (some ⟨g', 0, none⟩) m c') := World.cell?_setCell_same' _ _ _ (by rw [z3]; rfl)
      have k4 : (w2.setCell ⟨p, 3, none⟩ (.slice (some ⟨g', 0, none⟩) m c')).cell? ⟨p, 4, none⟩ = some (.map (some mp)) := by rw [cell_set_off w2 p 3 4 _ (by omega)]; exact z4
      have HWB := Lib.hid hwb
      have y3a : (wb.alloc (.cells #[.int .i64 ((q : Int) + 1), .int .i64 (k2 : Int), .slice none 0 0] 65)).cell? ⟨p, 3, none⟩ = some (.slice A m1 c) := (World.cell?_of_block (Below.heap_alloc wb _ p (mcell_lt y3))).trans y3
      have y3b : (wb.alloc (.cells #[.int .i64 ((q : Int) + 1), .int .i64 (k2 : Int), .slice none 0 0] 65)).drew.cell? ⟨p, 3, none⟩ = some (.slice A m1 c) := y3a
      change (Builtin.append_ #[66, 66] 66 #[.slice A m1 c, .slice (some ⟨wb.heap.size, 0, none⟩) 1 1]).run Tryd.prog (wb.alloc (.cells #[.int .i64 ((q : Int) + 1), .int .i64 (k2 : Int), .slice none 0 0] 65)).drew = _ at hrun2
      clear hba hba2 hxs hnb hM hMa h hk hin hnin hT hlt hfm hnum hf hq HKF HGb hszb hown2 hD2 ho2 hob2 ho02 hG4 ho4 Bb hbx hwb zf yf hrow2 hl hn hm hsn hk2 hk2a cstp cst c3 x3 v3 hm1
      go_enter Tryd.func51, Tryd.ntmps51
      go_wp2_with (first | (go_at_call 29; refine HC.out.mono ?_; rintro e w' ⟨rfl, rfl⟩) | (go_at_call 56; refine CSTP.out.mono ?_; rintro e w' ⟨rfl, rfl⟩))
      rw [HWB.out]
      apply wp_region_at8 (W := w2.setCell ⟨p, 3, none⟩ (.slice (some ⟨g', 0, none⟩) m c'))
      · go_region_law ((refine step_append8 ?_ (.tmp 47) (.tmp 49) 66 _ _ _ _ ?_ hrun2 ?_ ?_ ?_; rfl; rfl; go_simp; go_simp))
        all_goals exact ⟨rfl, rfl⟩
      clear hrun2 x0 x1 x2 y3 y4 y3a y3b z3 z4 z3f
      obtain ⟨w3, hw3⟩ : ∃ z, w2.setCell ⟨p, 3, none⟩ (.slice (some ⟨g', 0, none⟩) m c') = z := ⟨_, rfl⟩
      rw [hw3] at hrun4 k3 k4 ⊢
      clear hw3
      go_wp2
      go_region
      go_wp2
      go_ret
      exact HEN.out
end Go.Proofs.YtbbkkoeipkigdaaDoor

/- Two rows of runes: how far they are apart, and the steps between them: plain. Rows stand with their last rune first. -/
namespace Go.Proofs.YtbbkkoeipkigdaaDoor

/-- How many steps that aren't matches two rows are apart. -/
def levR : List Int → List Int → Nat
  | [], ys => ys.length
  | xs, [] => xs.length
  | x :: xs, y :: ys => min (levR xs ys + if x = y then 0 else 1) (min (levR xs (y :: ys) + 1) (levR (x :: xs) ys + 1))
termination_by xs ys => xs.length + ys.length

theorem levR_nil (ys : List Int) : levR [] ys = ys.length := by unfold levR; rfl
theorem levR_nil' (xs : List Int) : levR xs [] = xs.length := by cases xs <;> (unfold levR; rfl)
theorem levR_cons (x y : Int) (xs ys : List Int) : levR (x :: xs) (y :: ys) = min (levR xs ys + if x = y then 0 else 1) (min (levR xs (y :: ys) + 1) (levR (x :: xs) ys + 1)) := by
  rw [levR]

theorem levR_symm (xs ys : List Int) : levR xs ys = levR ys xs := by
  match xs, ys with
  | [], ys => rw [levR_nil, levR_nil']
  | x :: xs, [] => rw [levR_nil, levR_nil']
  | x :: xs, y :: ys =>
    rw [levR_cons, levR_cons, levR_symm xs ys, levR_symm xs (y :: ys), levR_symm (x :: xs) ys]
    have : (if x = y then 0 else 1) = if y = x then 0 else 1 := by
      by_cases h : x = y
      · rw [if_pos h, if_pos h.symm]
      · rw [if_neg h, if_neg (fun e => h e.symm)]
    rw [this]
    omega
termination_by xs.length + ys.length

theorem levR_up (x : Int) (xs ys : List Int) : levR (x :: xs) ys ≤ levR xs ys + 1 := by
  cases ys with
  | nil => rw [levR_nil', levR_nil']; simp
  | cons y ys => rw [levR_cons]; omega
theorem levR_up' (y : Int) (xs ys : List Int) : levR xs (y :: ys) ≤ levR xs ys + 1 := by
  rw [levR_symm, levR_symm xs ys]; exact levR_up y ys xs

theorem levR_down (x : Int) (xs ys : List Int) : levR xs ys ≤ levR (x :: xs) ys + 1 := by
  match ys with
  | [] => rw [levR_nil', levR_nil']; simp; omega
  | y :: ys =>
    have h1 := levR_up' y xs ys
    have h2 := levR_down x xs ys
    rw [levR_cons]
    omega
termination_by ys.length
theorem levR_down' (y : Int) (xs ys : List Int) : levR xs ys ≤ levR xs (y :: ys) + 1 := by
  rw [levR_symm xs ys, levR_symm xs (y :: ys)]; exact levR_down y ys xs

theorem levR_same (x : Int) (xs ys : List Int) : levR (x :: xs) (x :: ys) = levR xs ys := by
  have h1 := levR_down' x xs ys
  have h2 := levR_down x xs ys
  rw [levR_cons, if_pos rfl]
  omega

theorem levR_self (xs : List Int) : levR xs xs = 0 := by
  induction xs with
  | nil => rw [levR_nil]; rfl
  | cons x xs ih => rw [levR_same, ih]

theorem levR_zero {xs ys : List Int} (h : levR xs ys = 0) : xs = ys := by
  match xs, ys with
  | [], ys => rw [levR_nil] at h; exact (List.eq_nil_of_length_eq_zero h).symm
  | x :: xs, [] => rw [levR_nil'] at h; simp at h
  | x :: xs, y :: ys =>
    rw [levR_cons] at h
    by_cases e : x = y
    · rw [if_pos e] at h
      rw [e, levR_zero (xs := xs) (ys := ys) (by omega)]
    · rw [if_neg e] at h
      omega
termination_by xs.length + ys.length

theorem levR_len (xs ys : List Int) : xs.length ≤ ys.length + levR xs ys := by
  match xs, ys with
  | [], ys => simp
  | x :: xs, [] => rw [levR_nil']; omega
  | x :: xs, y :: ys =>
    have h1 := levR_len xs ys
    have h2 := levR_len xs (y :: ys)
    have h3 := levR_len (x :: xs) ys
    rw [levR_cons]
    simp only [List.length_cons] at *
    split <;> omega
termination_by xs.length + ys.length
theorem levR_len' (xs ys : List Int) : ys.length ≤ xs.length + levR xs ys := by rw [levR_symm]; exact levR_len ys xs

theorem levR_max (xs ys : List Int) : levR xs ys ≤ max xs.length ys.length := by
  match xs, ys with
  | [], ys => rw [levR_nil]; simp
  | x :: xs, [] => rw [levR_nil']; simp
  | x :: xs, y :: ys =>
    have h1 := levR_max xs ys
    rw [levR_cons]
    simp only [List.length_cons]
    split <;> omega
termination_by xs.length + ys.length

theorem levR_tri (xs ys zs : List Int) : levR xs zs ≤ levR xs ys + levR ys zs := by
  match xs, ys, zs with
  | [], ys, zs => rw [levR_nil, levR_nil]; exact levR_len' ys zs
  | x :: xs, ys, [] => rw [levR_nil', levR_nil']; have := levR_len (x :: xs) ys; omega
  | x :: xs, [], z :: zs =>
    have := levR_max (x :: xs) (z :: zs)
    rw [levR_nil, levR_nil']
    omega
  | x :: xs, y :: ys, z :: zs =>
    have t1 := levR_tri xs ys zs
    have t2 := levR_tri xs (y :: ys) (z :: zs)
    have t3 := levR_tri (x :: xs) ys (z :: zs)
    have t4 := levR_tri (x :: xs) (y :: ys) zs
    have d1 := levR_down y ys (z :: zs)
    have d2 := levR_down' y (x :: xs) ys
    have u1 := levR_up x xs (z :: zs)
    have u2 := levR_up' z (x :: xs) zs
    have a := levR_cons x z xs zs
    have b := levR_cons x y xs ys
    have c := levR_cons y z ys zs
    have e : (if x = z then 0 else 1) ≤ (if x = y then 0 else 1) + (if y = z then 0 else 1) := by
      by_cases h1 : x = y
      · subst h1; simp
      · simp [h1]; split <;> omega
    generalize (if x = z then 0 else 1) = p at *
    generalize (if x = y then 0 else 1) = q at *
    generalize (if y = z then 0 else 1) = r at *
    omega
termination_by xs.length + ys.length + zs.length

/-- The step of an alignment: its kind, the rune that was read, the one that should have been. -/
abbrev St := Int × Int × Int
/-- What was read, what should have been, how many aren't matches. -/
def stA : List St → List Int
  | [] => []
  | s :: l => if s.1 = 3 then stA l else s.2.1 :: stA l
def stB : List St → List Int
  | [] => []
  | s :: l => if s.1 = 2 then stB l else s.2.2 :: stB l
def stC : List St → Nat
  | [] => 0
  | s :: l => (if s.1 = 0 then 0 else 1) + stC l

/-- A step may be: a match of one rune, a sub of two, a delete, an insert. -/
def stOK (s : St) : Prop := (s.1 = 0 ∧ s.2.1 = s.2.2) ∨ (s.1 = 1 ∧ s.2.1 ≠ s.2.2) ∨ (s.1 = 2 ∧ s.2.2 = 0) ∨ (s.1 = 3 ∧ s.2.1 = 0)

theorem stC_ge (l : List St) (h : ∀ s ∈ l, stOK s) : levR (stA l) (stB l) ≤ stC l := by
  induction l with
  | nil => rw [stA, stB, stC, levR_nil]; exact Nat.le_refl _
  | cons s l ih =>
    have i := ih fun t ht => h t (by simp [ht])
    obtain ⟨k, a, b⟩ := s
    have hs : (k = 0 ∧ a = b) ∨ (k = 1 ∧ a ≠ b) ∨ (k = 2 ∧ b = 0) ∨ (k = 3 ∧ a = 0) := h (k, a, b) (by simp)
    rcases hs with ⟨rfl, h2⟩ | ⟨rfl, h2⟩ | ⟨rfl, h2⟩ | ⟨rfl, h2⟩
    · subst h2
      simp only [stA, stB, stC]
      simp
      rw [levR_same]
      exact i
    · simp only [stA, stB, stC]
      simp
      rw [levR_cons, if_neg h2]
      omega
    · simp only [stA, stB, stC]
      simp
      have := levR_up a (stA l) (stB l)
      omega
    · simp only [stA, stB, stC]
      simp
      have := levR_up' b (stA l) (stB l)
      omega

/-- The steps of two rows, the last one first. -/
def pathR : List Int → List Int → List St
  | [], [] => []
  | [], y :: ys => (3, 0, y) :: pathR [] ys
  | x :: xs, [] => (2, x, 0) :: pathR xs []
  | x :: xs, y :: ys =>
    if x = y ∧ levR (x :: xs) (y :: ys) = levR xs ys then (0, x, y) :: pathR xs ys
    else if x ≠ y ∧ levR (x :: xs) (y :: ys) = levR xs ys + 1 then (1, x, y) :: pathR xs ys
    else if levR (x :: xs) (y :: ys) = levR xs (y :: ys) + 1 then (2, x, 0) :: pathR xs (y :: ys)
    else (3, 0, y) :: pathR (x :: xs) ys
termination_by xs ys => xs.length + ys.length

theorem pathR_same (x : Int) (xs ys : List Int) : pathR (x :: xs) (x :: ys) = (0, x, x) :: pathR xs ys := by
  rw [pathR, if_pos ⟨rfl, levR_same x xs ys⟩]
theorem pathR_sub {x y : Int} {xs ys : List Int} (h : x ≠ y) (hl : levR (x :: xs) (y :: ys) = levR xs ys + 1) : pathR (x :: xs) (y :: ys) = (1, x, y) :: pathR xs ys := by
  rw [pathR, if_neg (fun e => h e.1), if_pos ⟨h, hl⟩]
theorem pathR_del {x y : Int} {xs ys : List Int} (h : x ≠ y) (hl : levR (x :: xs) (y :: ys) ≠ levR xs ys + 1) (hd : levR (x :: xs) (y :: ys) = levR xs (y :: ys) + 1) : pathR (x :: xs) (y :: ys) = (2, x, 0) :: pathR xs (y :: ys) := by
  rw [pathR, if_neg (fun e => h e.1), if_neg (fun e => hl e.2), if_pos hd]
theorem pathR_ins {x y : Int} {xs ys : List Int} (h : x ≠ y) (hl : levR (x :: xs) (y :: ys) ≠ levR xs ys + 1) (hd : levR (x :: xs) (y :: ys) ≠ levR xs (y :: ys) + 1) : pathR (x :: xs) (y :: ys) = (3, 0, y) :: pathR (x :: xs) ys := by
  rw [pathR, if_neg (fun e => h e.1), if_neg (fun e => hl e.2), if_neg hd]

/-- All of the steps: what they are of, how many aren't matches, that each may be. -/
theorem pathR_all (xs ys : List Int) : stA (pathR xs ys) = xs ∧ stB (pathR xs ys) = ys ∧ stC (pathR xs ys) = levR xs ys ∧ ∀ s ∈ pathR xs ys, stOK s := by
  match xs, ys with
  | [], [] => rw [pathR, levR_nil]; simp [stA, stB, stC]
  | [], y :: ys =>
    obtain ⟨h1, h2, h3, h4⟩ := pathR_all [] ys
    rw [pathR, levR_nil]
    rw [levR_nil] at h3
    refine ⟨by simp [stA, h1], by simp [stB, h2], by simp [stC, h3]; omega, fun s hs => ?_⟩
    rcases List.mem_cons.1 hs with rfl | hs
    · exact .inr (.inr (.inr ⟨rfl, rfl⟩))
    · exact h4 s hs
  | x :: xs, [] =>
    obtain ⟨h1, h2, h3, h4⟩ := pathR_all xs []
    rw [pathR, levR_nil']
    rw [levR_nil'] at h3
    refine ⟨by simp [stA, h1], by simp [stB, h2], by simp [stC, h3]; omega, fun s hs => ?_⟩
    rcases List.mem_cons.1 hs with rfl | hs
    · exact .inr (.inr (.inl ⟨rfl, rfl⟩))
    · exact h4 s hs
  | x :: xs, y :: ys =>
    by_cases e : x = y
    · subst e
      obtain ⟨h1, h2, h3, h4⟩ := pathR_all xs ys
      rw [pathR_same, levR_same]
      refine ⟨by simp [stA, h1], by simp [stB, h2], by simp [stC, h3], fun s hs => ?_⟩
      rcases List.mem_cons.1 hs with rfl | hs
      · exact .inl ⟨rfl, rfl⟩
      · exact h4 s hs
    · by_cases hl : levR (x :: xs) (y :: ys) = levR xs ys + 1
      · obtain ⟨h1, h2, h3, h4⟩ := pathR_all xs ys
        rw [pathR_sub e hl, hl]
        refine ⟨by simp [stA, h1], by simp [stB, h2], by simp [stC, h3]; omega, fun s hs => ?_⟩
        rcases List.mem_cons.1 hs with rfl | hs
        · exact .inr (.inl ⟨rfl, e⟩)
        · exact h4 s hs
      · by_cases hd : levR (x :: xs) (y :: ys) = levR xs (y :: ys) + 1
        · obtain ⟨h1, h2, h3, h4⟩ := pathR_all xs (y :: ys)
          rw [pathR_del e hl hd, hd]
          refine ⟨by simp [stA, h1], by simp [stB, h2], by simp [stC, h3]; omega, fun s hs => ?_⟩
          rcases List.mem_cons.1 hs with rfl | hs
          · exact .inr (.inr (.inl ⟨rfl, rfl⟩))
          · exact h4 s hs
        · obtain ⟨h1, h2, h3, h4⟩ := pathR_all (x :: xs) ys
          have hi : levR (x :: xs) (y :: ys) = levR (x :: xs) ys + 1 := by
            have c := levR_cons x y xs ys
            rw [if_neg e] at c
            omega
          rw [pathR_ins e hl hd, hi]
          refine ⟨by simp [stA, h1], by simp [stB, h2], by simp [stC, h3]; omega, fun s hs => ?_⟩
          rcases List.mem_cons.1 hs with rfl | hs
          · exact .inr (.inr (.inr ⟨rfl, rfl⟩))
          · exact h4 s hs
termination_by xs.length + ys.length

/-- Rows of one length that are at most one apart have no other steps than matches and subs: each of the two runes that stand there. -/
theorem pathR_flat (xs ys : List Int) (hl : xs.length = ys.length) (h : levR xs ys ≤ 1) : (pathR xs ys).length = xs.length ∧ ∀ i, i < xs.length → ∃ k, (pathR xs ys)[i]? = some (k, xs.getD i 0, ys.getD i 0) ∧ (k = 0 ∨ k = 1) := by
  match xs, ys with
  | [], [] => rw [pathR]; simp
  | x :: xs, y :: ys =>
    have hl' : xs.length = ys.length := by simpa using hl
    by_cases e : x = y
    · subst e
      rw [levR_same] at h
      obtain ⟨h1, h2⟩ := pathR_flat xs ys hl' h
      rw [pathR_same]
      refine ⟨by simp [h1], fun i hi => ?_⟩
      cases i with
      | zero => exact ⟨0, by simp, .inl rfl⟩
      | succ i => simpa using h2 i (by simpa using hi)
    · have c := levR_cons x y xs ys
      rw [if_neg e] at c
      have n1 : levR xs (y :: ys) ≠ 0 := fun h0 => by have := congrArg List.length (levR_zero h0); simp at this; omega
      have n2 : levR (x :: xs) ys ≠ 0 := fun h0 => by have := congrArg List.length (levR_zero h0); simp at this; omega
      have h0 : levR xs ys = 0 := by omega
      obtain ⟨h1, h2⟩ := pathR_flat xs ys hl' (by omega)
      rw [pathR_sub e (by omega)]
      refine ⟨by simp [h1], fun i hi => ?_⟩
      cases i with
      | zero => exact ⟨1, by simp, .inr rfl⟩
      | succ i => simpa using h2 i (by simpa using hi)
termination_by xs.length + ys.length

/-- Rows that end alike have matches there. -/
theorem pathR_ends (es xs ys : List Int) : pathR (es ++ xs) (es ++ ys) = (es.map fun e => ((0, e, e) : St)) ++ pathR xs ys := by
  induction es with
  | nil => rfl
  | cons e es ih => rw [List.cons_append, List.cons_append, pathR_same, ih]; rfl
theorem levR_ends (es xs ys : List Int) : levR (es ++ xs) (es ++ ys) = levR xs ys := by
  induction es with
  | nil => rfl
  | cons e es ih => rw [List.cons_append, List.cons_append, levR_same, ih]
end Go.Proofs.YtbbkkoeipkigdaaDoor

/- Rows of steps that aren't matches, plain. -/
namespace Go.Proofs.YtbbkkoeipkigdaaDoor

def ne0 (s : St) : Bool := decide (s.1 ≠ 0)
theorem ne0_true {s : St} : ne0 s = true ↔ s.1 ≠ 0 := by simp [ne0]
theorem ne0_false {s : St} : ne0 s = false ↔ s.1 = 0 := by simp [ne0]

theorem drop_le (l : List St) : (l.dropWhile ne0).length ≤ l.length := (List.dropWhile_suffix ne0).length_le

/-- The longest rows of steps that aren't matches, as they stand. -/
def rowsP : List St → List (List St)
  | [] => []
  | s :: l => if s.1 = 0 then rowsP l else (s :: l.takeWhile ne0) :: rowsP (l.dropWhile ne0)
termination_by l => l.length
decreasing_by
  · simp
  · have := drop_le l
    simp; omega
theorem rowsP_nil : rowsP [] = [] := by rw [rowsP]
theorem rowsP_match {s : St} {l : List St} (h : s.1 = 0) : rowsP (s :: l) = rowsP l := by rw [rowsP, if_pos h]
theorem rowsP_row {s : St} {l : List St} (h : s.1 ≠ 0) : rowsP (s :: l) = (s :: l.takeWhile ne0) :: rowsP (l.dropWhile ne0) := by rw [rowsP, if_neg h]

/-- The last step isn't a match. -/
def inRun (l : List St) : Bool := match l.getLast? with
  | none => false
  | some s => ne0 s
theorem inRun_nil : inRun [] = false := rfl
theorem inRun_snoc (l : List St) (s : St) : inRun (l ++ [s]) = ne0 s := by simp [inRun]

theorem drop_or (t : List St) : (t.dropWhile ne0 = [] ∧ t.takeWhile ne0 = t ∧ ∀ s ∈ t, ne0 s = true) ∨ (∃ m r, m.1 = 0 ∧ t.dropWhile ne0 = m :: r ∧ t = t.takeWhile ne0 ++ m :: r) := by
  induction t with
  | nil => left; simp
  | cons a t ih =>
    cases ha : ne0 a with
    | false =>
      right
      exact ⟨a, t, ne0_false.1 ha, by simp [ha], by simp [ha]⟩
    | true =>
      rcases ih with ⟨h1, h2, h3⟩ | ⟨m, r, h1, h2, h3⟩
      · left
        refine ⟨by simp [ha, h1], by simp [ha, h2], fun s hs => ?_⟩
        rcases List.mem_cons.1 hs with rfl | hs
        · exact ha
        · exact h3 s hs
      · right
        refine ⟨m, r, h1, by simp [ha, h2], ?_⟩
        simp only [List.takeWhile_cons, ha, if_true, List.cons_append]
        rw [← h3]
theorem take_app (t u : List St) : (t ++ u).takeWhile ne0 = if t.dropWhile ne0 = [] then t ++ u.takeWhile ne0 else t.takeWhile ne0 := by
  induction t with
  | nil => simp
  | cons a t ih =>
    cases ha : ne0 a with
    | false => simp [ha]
    | true =>
      simp only [List.cons_append, List.takeWhile_cons, List.dropWhile_cons, ha, if_true, ih]
      split <;> rfl
theorem drop_app (t u : List St) : (t ++ u).dropWhile ne0 = if t.dropWhile ne0 = [] then u.dropWhile ne0 else t.dropWhile ne0 ++ u := by
  induction t with
  | nil => simp
  | cons a t ih =>
    cases ha : ne0 a with
    | false => simp [ha]
    | true => simp only [List.cons_append, List.dropWhile_cons, ha, if_true, ih]

/-- Steps one behind the other, a match between, have the rows of both. -/
theorem rowsP_parts (l r : List St) (m : St) (hm : m.1 = 0) : rowsP (l ++ m :: r) = rowsP l ++ rowsP r := by
  match l with
  | [] => rw [List.nil_append, rowsP_match hm, rowsP_nil, List.nil_append]
  | s :: l =>
    by_cases hs : s.1 = 0
    · rw [List.cons_append, rowsP_match hs, rowsP_match hs, rowsP_parts l r m hm]
    · have hm' : ne0 m = false := ne0_false.2 hm
      rw [List.cons_append, rowsP_row hs, rowsP_row hs, take_app, drop_app]
      by_cases h : l.dropWhile ne0 = []
      · rw [if_pos h, if_pos h, List.takeWhile_cons, List.dropWhile_cons, hm', h, rowsP_nil]
        have ht : l.takeWhile ne0 = l := by
          rcases drop_or l with h' | ⟨_, _, _, h', _⟩
          · exact h'.2.1
          · rw [h] at h'; cases h'
        simp [ht, rowsP_match hm]
      · rw [if_neg h, if_neg h, List.cons_append, rowsP_parts (l.dropWhile ne0) r m hm]
termination_by l.length
decreasing_by
  · simp
  · have := drop_le l
    simp; omega

theorem rowsP_ne (l : List St) (s : St) (hs : s ∈ l) (h : s.1 ≠ 0) : rowsP l ≠ [] := by
  match l with
  | [] => simp at hs
  | a :: l =>
    by_cases ha : a.1 = 0
    · rw [rowsP_match ha]
      rcases List.mem_cons.1 hs with rfl | hs
      · exact absurd ha h
      · exact rowsP_ne l s hs h
    · rw [rowsP_row ha]; simp

/-- A step more. -/
theorem rowsP_snoc (p : List St) (s : St) : rowsP (p ++ [s]) = if s.1 = 0 then rowsP p else if inRun p = true then (rowsP p).dropLast ++ [(rowsP p).getLastD [] ++ [s]] else rowsP p ++ [[s]] := by
  by_cases hs : s.1 = 0
  · rw [if_pos hs]
    have := rowsP_parts p [] s hs
    rw [rowsP_nil, List.append_nil] at this
    exact this
  · rw [if_neg hs]
    have hs' : ne0 s = true := ne0_true.2 hs
    match p with
    | [] => rw [List.nil_append, rowsP_row hs, inRun_nil]; simp [rowsP_nil]
    | a :: t =>
      by_cases ha : a.1 = 0
      · have ih := rowsP_snoc t s
        rw [if_neg hs] at ih
        rw [List.cons_append, rowsP_match ha, rowsP_match ha, ih]
        have e : inRun (a :: t) = inRun t := by
          cases t with
          | nil => simp [inRun, ne0, ha]
          | cons b t => simp [inRun]
        rw [e]
      · rw [List.cons_append, rowsP_row ha, rowsP_row ha, take_app, drop_app]
        rcases drop_or t with ⟨h1, h2, h3⟩ | ⟨m, r, h1, h2, h3⟩
        · rw [if_pos h1, if_pos h1, h1, h2, rowsP_nil]
          have e : inRun (a :: t) = true := by
            rcases List.eq_nil_or_concat t with rfl | ⟨t', b, rfl⟩
            · simp [inRun, ne0, ha]
            · rw [List.concat_eq_append, ← List.cons_append, inRun_snoc]
              exact h3 b (by simp)
          rw [if_pos e]
          simp [hs', rowsP_nil]
        · have hne : t.dropWhile ne0 ≠ [] := by rw [h2]; simp
          rw [if_neg hne, if_neg hne]
          have ih := rowsP_snoc (t.dropWhile ne0) s
          rw [if_neg hs] at ih
          rw [ih]
          have e : inRun (a :: t) = inRun (t.dropWhile ne0) := by
            rw [h2]
            conv => lhs; rw [h3]
            have e2 : (a :: (t.takeWhile ne0 ++ m :: r)).getLast? = (m :: r).getLast? := by
              rw [← List.cons_append, List.getLast?_append, List.getLast?_cons]
              rfl
            simp only [inRun, e2]
          rw [e]
          by_cases hr : inRun (t.dropWhile ne0) = true
          · rw [if_pos hr, if_pos hr]
            have hnr : rowsP (t.dropWhile ne0) ≠ [] := by
              rcases List.eq_nil_or_concat (t.dropWhile ne0) with h' | ⟨t', b, h'⟩
              · exact absurd h' hne
              · rw [h', List.concat_eq_append] at hr
                rw [inRun_snoc] at hr
                intro h0
                rw [h', List.concat_eq_append] at h0
                exact rowsP_ne (t' ++ [b]) b (by simp) (ne0_true.1 hr) h0
            cases hx : rowsP (t.dropWhile ne0) with
            | nil => exact absurd hx hnr
            | cons c d => simp [List.getLastD]
          · rw [if_neg hr, if_neg hr, List.cons_append]
termination_by p.length
decreasing_by
  · simp
  · have := drop_le t
    simp; omega

theorem stC_app (a b : List St) : stC (a ++ b) = stC a + stC b := by
  induction a with
  | nil => simp [stC]
  | cons s a ih => simp only [List.cons_append, stC, ih]; omega
theorem stC_run (l : List St) (h : ∀ s ∈ l, s.1 ≠ 0) : stC l = l.length := by
  induction l with
  | nil => rfl
  | cons s l ih =>
    rw [stC, if_neg (h s (by simp)), ih (fun t ht => h t (by simp [ht])), List.length_cons]
    omega
/-- Each row: not empty, no match in it, a part of the steps. -/
theorem rowsP_each (l : List St) : ∀ r ∈ rowsP l, r ≠ [] ∧ (∀ s ∈ r, s.1 ≠ 0) ∧ ∃ X Y, l = X ++ r ++ Y := by
  match l with
  | [] => rw [rowsP_nil]; simp
  | a :: l =>
    by_cases ha : a.1 = 0
    · rw [rowsP_match ha]
      intro r hr
      obtain ⟨h1, h2, X, Y, h3⟩ := rowsP_each l r hr
      exact ⟨h1, h2, a :: X, Y, by rw [h3]; simp⟩
    · rw [rowsP_row ha]
      intro r hr
      rcases List.mem_cons.1 hr with rfl | hr
      · refine ⟨by simp, fun s hs => ?_, [], l.dropWhile ne0, by simp⟩
        rcases List.mem_cons.1 hs with rfl | hs
        · exact ha
        · exact ne0_true.1 (List.all_eq_true.1 (List.all_takeWhile) s hs)
      · obtain ⟨h1, h2, X, Y, h3⟩ := rowsP_each (l.dropWhile ne0) r hr
        refine ⟨h1, h2, a :: l.takeWhile ne0 ++ X, Y, ?_⟩
        conv => lhs; rw [← List.takeWhile_append_dropWhile (p := ne0) (l := l), h3]
        simp
termination_by l.length
decreasing_by
  · simp
  · have := drop_le l
    simp; omega
/-- As many steps in all rows as aren't matches. -/
theorem rowsP_sum (l : List St) : ((rowsP l).map List.length).sum = stC l := by
  match l with
  | [] => rw [rowsP_nil]; rfl
  | a :: l =>
    by_cases ha : a.1 = 0
    · rw [rowsP_match ha, rowsP_sum l, stC, if_pos ha, Nat.zero_add]
    · rw [rowsP_row ha, List.map_cons, List.sum_cons, rowsP_sum (l.dropWhile ne0)]
      have e : stC (a :: l) = stC (a :: l.takeWhile ne0) + stC (l.dropWhile ne0) := by
        rw [← stC_app, List.cons_append, List.takeWhile_append_dropWhile]
      rw [e, stC_run (a :: l.takeWhile ne0) (fun s hs => ?_)]
      rcases List.mem_cons.1 hs with rfl | hs
      · exact ha
      · exact ne0_true.1 (List.all_eq_true.1 (List.all_takeWhile) s hs)
termination_by l.length
decreasing_by
  · simp
  · have := drop_le l
    simp; omega
theorem rowsP_len (l : List St) : (rowsP l).length ≤ l.length := by
  match l with
  | [] => rw [rowsP_nil]; simp
  | a :: l =>
    by_cases ha : a.1 = 0
    · rw [rowsP_match ha]
      have := rowsP_len l
      simp; omega
    · rw [rowsP_row ha]
      have := rowsP_len (l.dropWhile ne0)
      have := drop_le l
      simp; omega
termination_by l.length
decreasing_by
  · simp
  · have := drop_le l
    simp; omega
end Go.Proofs.YtbbkkoeipkigdaaDoor

/- Rows of numbers ([]int) that a call has made for itself, and rows of such rows. -/
namespace Go.Proofs.YtbbkkoeipkigdaaDoor
open Go.RowKit

def cellsN (l : List Nat) : Array Value := (l.map fun x : Nat => Value.int .i64 (x : Int)).toArray
/-- Block g is a row of numbers. -/
def RowN (w : World) (g : Nat) (l : List Nat) : Prop := w.heap[g]? = some (.cells (cellsN l) 3)
theorem RowN.cell {w : World} {g : Nat} {l : List Nat} (h : RowN w g l) (j : Nat) (hj : j < l.length) : w.cell? ⟨g, j, none⟩ = some (.int .i64 ((l.getD j 0 : Nat) : Int)) := by
  rw [cell_of_row w g j (cellsN l) _ (0, 0) h]
  simp [cellsN, List.getD_eq_getElem?_getD, hj]
theorem RowN.frozen {w : World} {g : Nat} {l : List Nat} (h : RowN w g l) (j : Nat) : w.frozen? ⟨g, j, none⟩ = false := by
  have h' : w.heap[g]? = some (.cells (cellsN l) 3 (0, 0)) := h
  simp [World.frozen?, h']
theorem RowN.lt {w : World} {g : Nat} {l : List Nat} (h : RowN w g l) : g < w.heap.size := (Array.getElem?_eq_some_iff.1 h).1
theorem RowN.set {w : World} {g : Nat} {l : List Nat} (h : RowN w g l) (j x : Nat) : RowN (w.setCell ⟨g, j, none⟩ (.int .i64 (x : Int))) g (l.set j x) := by
  have h' : w.heap[g]? = some (.cells (cellsN l) 3 (0, 0)) := h
  have e : cellsN (l.set j x) = (cellsN l).setIfInBounds j (.int .i64 (x : Int)) := by simp [cellsN, List.map_set]
  show _ = some (Obj.cells (cellsN (l.set j x)) _)
  rw [setCell_eq_setRow w g j (cellsN l) _ (0, 0) _ h', e]
  exact setRow_heap w g _ _ _ (0, 0) h'
theorem RowN.below {w w' : World} {g B : Nat} {l : List Nat} (h : RowN w g l) (hb : Below B w w') (hB : g < B) : RowN w' g l := (hb.block g hB).trans h

theorem infoI : (Tryd.prog.info? 3).map (fun i => (i.zero, i.size, i.bytes)) = some (some (.int .i64 0), 1, 8) := by kernel_rfl
/-- make([]int, n). -/
theorem make_ints (w : World) (n : Nat) (hn : n ≤ 1000000) : (Instr.makeSlice 38 (.int .i64 (n : Int)) (.int .i64 (n : Int))).run Tryd.prog w =
    .ok (.slice (some ⟨w.heap.size, 0, none⟩) n n) (w.alloc (.cells (cellsN (List.replicate n 0)) 3)) := by
  obtain ⟨i0, hi, hz0, hz1, hz2⟩ := info_parts infoI
  have h := run_make (P := Tryd.prog) w 38 3 i0 _ Tryd.underlying38 hi hz0 .i64 .i64 (n : Int) (n : Int) (by omega) (Int.le_refl _) (by rw [hz2]; omega) (by omega)
  rw [h, hz1]
  have e : madeCells (Value.int .i64 0).cells (n * 1) = cellsN (List.replicate n 0) := by
    rw [Nat.mul_one]
    apply Array.ext
    · simp [size_madeCells, cellsN]
    · intro i h1 h2
      simp [madeCells, cellsN, Value.cells, Nat.mod_one]
  simp only [Int.toNat_natCast]
  rw [e]

end Go.Proofs.YtbbkkoeipkigdaaDoor

/- The table of two rows' beginnings, as errataref04.table makes it. -/
namespace Go.Proofs.YtbbkkoeipkigdaaDoor
open Go.RowKit

/-- How far two beginnings are apart. -/
def tab (x y : List Int) (i j : Nat) : Nat := levR (x.take i).reverse (y.take j).reverse

theorem tab_zero (x y : List Int) (j : Nat) (hj : j ≤ y.length) : tab x y 0 j = j := by
  rw [tab, List.take_zero, List.reverse_nil, levR_nil, List.length_reverse, List.length_take]
  omega
theorem tab_zero' (x y : List Int) (i : Nat) (hi : i ≤ x.length) : tab x y i 0 = i := by
  rw [tab, List.take_zero, List.reverse_nil, levR_nil', List.length_reverse, List.length_take]
  omega
theorem rev_take (x : List Int) (i : Nat) (hi : i < x.length) : (x.take (i + 1)).reverse = x.getD i 0 :: (x.take i).reverse := by
  rw [List.take_add_one, List.reverse_append]
  simp [List.getElem?_eq_getElem hi, List.getD_eq_getElem?_getD]
theorem tab_step (x y : List Int) (i j : Nat) (hi : i < x.length) (hj : j < y.length) :
    tab x y (i + 1) (j + 1) = min (tab x y i j + if x.getD i 0 = y.getD j 0 then 0 else 1) (min (tab x y i (j + 1) + 1) (tab x y (i + 1) j + 1)) := by
  rw [tab, rev_take x i hi, rev_take y j hj, levR_cons, ← rev_take x i hi, ← rev_take y j hj]
  rfl
theorem tab_le (x y : List Int) (i j : Nat) : tab x y i j ≤ x.length + y.length := by
  have := levR_max (x.take i).reverse (y.take j).reverse
  rw [List.length_reverse, List.length_reverse, List.length_take, List.length_take] at this
  unfold tab
  omega

/-- Row i of the table. -/
def rowL (x y : List Int) (M i : Nat) : List Nat := (List.range M).map (tab x y i)
theorem rowL_length (x y : List Int) (M i : Nat) : (rowL x y M i).length = M := by simp [rowL]
theorem rowL_getD (x y : List Int) (M i j : Nat) (hj : j < M) : (rowL x y M i).getD j 0 = tab x y i j := by
  simp [rowL, List.getD_eq_getElem?_getD, hj]
theorem set_mid (gs : List Nat) (N i g : Nat) (hl : gs.length = i) (hi : i < N) : (gs.map some ++ List.replicate (N - i) (none : Option Nat)).set i (some g) = (gs ++ [g]).map some ++ List.replicate (N - (i + 1)) none := by
  obtain ⟨r, hr⟩ : ∃ r, N - i = r + 1 := ⟨N - i - 1, by omega⟩
  have h2 : N - (i + 1) = r := by omega
  rw [hr, h2, List.replicate_succ, List.set_append, List.length_map, hl, if_neg (by omega), Nat.sub_self]
  simp

theorem getD_set (l : List Nat) (i j x : Nat) (hi : i < l.length) : (l.set i x).getD j 0 = if i = j then x else l.getD j 0 := by
  rw [List.getD_eq_getElem?_getD, List.getD_eq_getElem?_getD, List.getElem?_set]
  by_cases h : i = j
  · subst h; simp [hi]
  · simp [h]

end Go.Proofs.YtbbkkoeipkigdaaDoor

/- The table of align: whether two beginnings end in one rune, and their distance by those above and on the left. -/
namespace Go.Proofs.YtbbkkoeipkigdaaDoor
open Go.RowKit

/-- A table as a value: what was read, what should have been, the rows. -/
def tblV (u v d : Value) : Value := .agg #[u, v, d]
def sameB (x y : List Int) (i j : Nat) : Bool := decide (0 < i ∧ 0 < j ∧ x.getD (i - 1) 0 = y.getD (j - 1) 0)

/-- The three cells of the table ahead of one, where there are such. -/
def Ahead (w : World) (d : Value) (x y : List Int) (m i j : Nat) : Prop :=
  ∀ i' j' : Nat, i = i' + 1 → j = j' + 1 → ∃ G b0 b1 dn dc, d = .slice (some ⟨G, 0, none⟩) dn dc ∧ i < dn ∧ dn ≤ 1000 ∧
    w.cell? ⟨G, i', none⟩ = some (.slice (some ⟨b0, 0, none⟩) (m + 1) (m + 1)) ∧ w.cell? ⟨G, i, none⟩ = some (.slice (some ⟨b1, 0, none⟩) (m + 1) (m + 1)) ∧
    w.cell? ⟨b0, j', none⟩ = some (.int .i64 (tab x y i' j' : Nat)) ∧ w.cell? ⟨b0, j, none⟩ = some (.int .i64 (tab x y i' j : Nat)) ∧ w.cell? ⟨b1, j', none⟩ = some (.int .i64 (tab x y i j' : Nat))
theorem cell_lt {w : World} {a : Addr} {v : Value} (hc : w.cell? a = some v) : a.block < w.heap.size := by
  rcases Nat.lt_or_ge a.block w.heap.size with h' | h'
  · exact h'
  · simp [World.cell?, Array.getElem?_eq_none h'] at hc

theorem tab_same (x y : List Int) (i j : Nat) (hi : i < x.length) (hj : j < y.length) (h : x.getD i 0 = y.getD j 0) : tab x y (i + 1) (j + 1) = tab x y i j := by
  unfold tab
  rw [rev_take x i hi, rev_take y j hj, h, levR_same]

end Go.Proofs.YtbbkkoeipkigdaaDoor

