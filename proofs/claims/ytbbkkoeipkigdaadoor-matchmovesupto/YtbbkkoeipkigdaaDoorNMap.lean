/- A set of hits as a map: its keys, what it reads as, one hit more. -/
import Derived.Test.YtbbkkoeipkigdaaDoorPk14
namespace Go.Proofs.YtbbkkoeipkigdaaDoor
open Go.RowKit Go.Shelf
set_option linter.unusedSimpArgs false
set_option linter.unusedVariables false

theorem hit_law : WideMaps.KeyLaw Tryd.prog 50 := deep_law_laid (P := Tryd.prog) laidOut8 (m := 2) (by decide) (of_decide_eq_true (by kernel_rfl)) (by kernel_rfl) (by kernel_rfl)
theorem hit_keyed : Maps.Keyed Tryd.prog 50 := Maps.Keyed.of_law hit_law
/-- What a hit reads as, as a key. -/
def keyH (a i : Int) : Lit := .string (keyBytes [.int .i64 a, .int .i64 i])
theorem cellsHit : Tryd.prog.cellsOf 50 = 2 := by kernel_rfl
theorem keyTypeHit : Tryd.prog.keyType 50 = true := by kernel_rfl
theorem klit_hit (d : Nat) (u v : Value) : Tryd.prog.keyLits (d + 1 + 1) 50 [u, v] = (Tryd.prog.keyLits (d + 1) 3 [u]).bind fun x => (Tryd.prog.keyLits (d + 1) 3 [v]).map fun y => x ++ y := by
  conv => lhs; unfold Program.keyLits
  simp only [Tryd.underlying50, cellsHit, cellsI]
  cases h1 : Tryd.prog.keyLits (d + 1) 3 [u] with
  | none => simp [h1, cellsI]
  | some x =>
    cases h2 : Tryd.prog.keyLits (d + 1) 3 [v] with
    | none => simp [h1, h2, cellsI]
    | some y => simp [h1, h2, cellsI]
theorem keyOf_hit (n r : Int) (hn : (Lit.int .i64 n).wf = true) (hr : (Lit.int .i64 r).wf = true) : keyOf Tryd.prog 50 (.agg #[.int .i64 n, .int .i64 r]) = some (keyH n r) := by
  obtain ⟨d, hd⟩ := typesSizeE
  unfold keyOf
  rw [Tryd.underlying50]
  simp only [keyTypeHit, Bool.true_and]
  rw [if_pos (by simp [Value.formed, Tryd.underlying50, cellsHit]), hd]
  show Option.map _ (Tryd.prog.keyLits (d + 1 + 1) 50 [.int .i64 n, .int .i64 r]) = _
  rw [klit_hit, klit_int d n hn, klit_int d r hr]
  rfl
theorem keyH_inj {a b c d : Int} (ha : (Lit.int .i64 a).wf = true) (hb : (Lit.int .i64 b).wf = true) (hc : (Lit.int .i64 c).wf = true) (hd : (Lit.int .i64 d).wf = true) (h : keyH a b = keyH c d) : a = c ∧ b = d := by
  have h1 := keyOf_hit a b ha hb
  rw [h] at h1
  have := hit_keyed.inj h1 (keyOf_hit c d hc hd)
  simpa using this
theorem keyH_isKey (a b : Int) : WideAt.IsKeyLit (keyH a b) := trivial
abbrev HitMap (w : World) (m n : Nat) (D : DataW Unit) : Prop := w.ownsMap Tryd.prog 50 (plainElem Tryd.prog 4) m n D
/-- What the map reads as: whether a hit is there. -/
def ViewH (D : DataW Unit) (l : List (Nat × Nat)) : Prop := ∀ a i : Nat, a ≤ 1000000000 → i ≤ 1000000000 → D.atKey (keyH a i) (.lit (.bool false)) = .lit (.bool (decide ((a, i) ∈ l)))
theorem ViewH.none_ : ViewH (.map []) [] := fun a i _ _ => by simp; rfl
theorem mem_snoc_ne {a i a0 i0 : Nat} (l : List (Nat × Nat)) (e : ¬(a = a0 ∧ i = i0)) : decide ((a, i) ∈ l ++ [(a0, i0)]) = decide ((a, i) ∈ l) := by
  have h : ((a, i) ∈ l ++ [(a0, i0)]) ↔ ((a, i) ∈ l) := by
    rw [List.mem_append, List.mem_singleton, Prod.mk.injEq]
    exact ⟨fun h => h.elim id (fun h => absurd h e), .inl⟩
  by_cases h1 : (a, i) ∈ l
  · rw [decide_eq_true h1, decide_eq_true (h.2 h1)]
  · rw [decide_eq_false h1, decide_eq_false (fun h2 => h1 (h.1 h2))]
theorem mem_snoc_eq (l : List (Nat × Nat)) (a i : Nat) : decide ((a, i) ∈ l ++ [(a, i)]) = true := decide_eq_true (List.mem_append_right _ (List.mem_singleton.2 rfl))
theorem ViewH.put {D : DataW Unit} {l : List (Nat × Nat)} (h : ViewH D l) (hD : Maps.IsMap D) {a0 i0 : Nat} (ha0 : a0 ≤ 1000000000) (hi0 : i0 ≤ 1000000000) : ViewH (D.put (keyH a0 i0) (.lit (.bool true))) (l ++ [(a0, i0)]) := by
  intro a i ha hi
  by_cases e : a = a0 ∧ i = i0
  · obtain ⟨rfl, rfl⟩ := e
    rw [Maps.atKey_put_same hD (keyH_isKey _ _), mem_snoc_eq l a i]
  · have hne : keyH a i ≠ keyH a0 i0 := fun e2 => e (by
      obtain ⟨e3, e4⟩ := keyH_inj (wf_nat (by omega)) (wf_nat (by omega)) (wf_nat (by omega)) (wf_nat (by omega)) e2
      exact ⟨by omega, by omega⟩)
    rw [Maps.atKey_put_other hne, h a i ha hi]
    rw [mem_snoc_ne l e]
theorem bool_zero8 (w : World) : (zeroValue 4).run Tryd.prog w = .ok (.bool false) w := by kernel_rfl
theorem bool_inv_any {P : Program} {t : TypeId} (ht : P.underlying t = some .bool) {v : Value} {z : DataW Unit × List MemPlace} (h : plainElem P t v = some z) : ∃ b, v = .bool b ∧ z.1 = .lit (.bool b) := by
  unfold plainElem at h
  rw [ht] at h
  cases v <;> simp at h
  exact ⟨_, rfl, by rw [← h]⟩
theorem bool_elem_inv {v : Value} {z : DataW Unit × List MemPlace} (h : plainElem Tryd.prog 4 v = some z) : ∃ b, v = .bool b ∧ z.1 = .lit (.bool b) := bool_inv_any Tryd.underlying4 h
/-- m[k], as it is run. -/
theorem HitMap.look {w : World} {mb n : Nat} {D : DataW Unit} {l : List (Nat × Nat)} (h : HitMap w mb n D) (hv : ViewH D l) {a i : Nat} (ha : a ≤ 1000000000) (hi : i ≤ 1000000000) :
    (Instr.lookup 58 (.map (some mb)) (.agg #[.int .i64 (a : Int), .int .i64 (i : Int)]) false).run Tryd.prog w = .ok (.bool (decide ((a, i) ∈ l))) w := by
  have hat := hv a i ha hi
  obtain ⟨es, clock, hb, F, _, rfl⟩ := h
  rcases Maps.fit_look false hit_keyed Tryd.underlying58 (bool_zero8 w) hb F (keyOf_hit a i (wf_nat (by omega)) (wf_nat (by omega))) with ⟨hrun, _, h2⟩ | ⟨e0, y, _, _, hrun, hRv, h2, _⟩
  · rw [h2] at hat
    rw [hrun]
    have h3 : false = decide ((a, i) ∈ l) := by simpa using hat
    rw [← h3]
    rfl
  · rw [h2] at hat
    obtain ⟨b, hb1, hb2⟩ := bool_elem_inv hRv
    rw [hb2] at hat
    have h3 : b = decide ((a, i) ∈ l) := by simpa using hat
    rw [hrun, hb1, ← h3]
    rfl
/-- m[k] = true, as it is run. -/
theorem HitMap.set {w : World} {mb n : Nat} {D : DataW Unit} {l : List (Nat × Nat)} (h : HitMap w mb n D) (hv : ViewH D l) (hn : n ≤ 1000000) {a i : Nat} (ha : a ≤ 1000000000) (hi : i ≤ 1000000000) :
    ∃ w' D', (Instr.mapUpdate 58 (.map (some mb)) (.agg #[.int .i64 (a : Int), .int .i64 (i : Int)]) (.bool true)).run Tryd.prog w = .ok () w' ∧ HitMap w' mb (n + 1) D' ∧ ViewH D' (l ++ [(a, i)]) ∧ w.grownBy w' (some mb) := by
  obtain ⟨w', hrun, h1, h2⟩ := h.update (t := 58) (e := 4) hit_keyed Tryd.underlying58 (by unfold maxLen; omega) (keyOf_hit a i (wf_nat (by omega)) (wf_nat (by omega))) (plainElem_bool Tryd.underlying4 true)
  exact ⟨w', _, hrun, h1, hv.put h.isMap ha hi, h2⟩
theorem HitMap.made (w : World) : HitMap (w.alloc (.map #[] 0)) w.heap.size 0 (.map []) := World.ownsMap_made w Tryd.prog 50 (plainElem Tryd.prog 4)
end Go.Proofs.YtbbkkoeipkigdaaDoor
