/- Slices of steps: a value that reads as a list of them. -/
import Derived.Test.YthigbnklekdemaaDoorAPlain
import Derived.Test.YthigbnklekdemaaDoorJoin
namespace Go.Proofs.YthigbnklekdemaaDoor
open Go.RowKit Go.Shelf

theorem info_st : (Tryd.prog.info? 42).map (fun i => (i.zero, i.size, i.bytes)) = some (some (.agg #[.int .i64 0, .int .i32 0, .int .i32 0]), 3, 16) := by kernel_rfl
def stCell (p : St) : List Value := [.int .i64 p.1, .int .i32 p.2.1, .int .i32 p.2.2]
def stCells (l : List St) : List Value := l.flatMap stCell
theorem stCells_len (l : List St) : (stCells l).length = l.length * 3 := by
  induction l with
  | nil => rfl
  | cons p l ih => simp [stCells, stCell] at ih ⊢; omega
theorem st_one (x : St) : ∀ u ∈ stCell x, u.oneCell' = true := by
  intro u hu; simp [stCell] at hu; rcases hu with rfl | rfl | rfl <;> rfl
/-- The slice value v reads as the steps l. -/
def StRuns (w : World) (v : Value) (l : List St) : Prop :=
  ∃ A c, v = .slice A l.length c ∧ l.length ≤ c ∧ (c ≤ maxLen ∧ (A = none → c = 0)) ∧
    (0 < l.length → ∃ b o, A = some ⟨b, o, none⟩ ∧ b < w.heap.size ∧ ∀ j, j < l.length →
      w.cell? ⟨b, o + j * 3, none⟩ = some (.int .i64 (l.getD j (0, 0, 0)).1) ∧ w.cell? ⟨b, o + j * 3 + 1, none⟩ = some (.int .i32 (l.getD j (0, 0, 0)).2.1) ∧ w.cell? ⟨b, o + j * 3 + 2, none⟩ = some (.int .i32 (l.getD j (0, 0, 0)).2.2))
theorem StRuns.below {w w' : World} {v : Value} {l : List St} (h : StRuns w v l) (hb : Below w.heap.size w w') : StRuns w' v l := by
  obtain ⟨A, c, e, hc, hm, hx⟩ := h
  refine ⟨A, c, e, hc, hm, fun h0 => ?_⟩
  obtain ⟨b, o, eA, hlt, hcell⟩ := hx h0
  exact ⟨b, o, eA, Nat.lt_of_lt_of_le hlt hb.size, fun j hj => ⟨(hb.cell (p := ⟨b, _, none⟩) hlt).trans (hcell j hj).1, (hb.cell (p := ⟨b, _, none⟩) hlt).trans (hcell j hj).2.1, (hb.cell (p := ⟨b, _, none⟩) hlt).trans (hcell j hj).2.2⟩⟩
theorem StRuns.nil_ (w : World) : StRuns w (.slice none 0 0) [] := ⟨none, 0, rfl, by simp, by simp [maxLen], fun h => absurd h (by simp)⟩
theorem stCells_at (l : List St) (j i : Nat) (hj : j < l.length) (hi : i < 3) : (stCells l)[j * 3 + i]? = (stCell (l.getD j (0, 0, 0)))[i]? := by
  induction l generalizing j with
  | nil => simp at hj
  | cons p l ih =>
    cases j with
    | zero =>
      show (stCell p ++ stCells l)[0 * 3 + i]? = _
      rw [List.getElem?_append_left (by simp [stCell]; omega)]; simp
    | succ j =>
      show (stCell p ++ stCells l)[(j + 1) * 3 + i]? = _
      rw [List.getElem?_append_right (by simp [stCell]; omega)]
      have := ih j (by simpa using hj)
      rw [show (j + 1) * 3 + i - (stCell p).length = j * 3 + i by simp [stCell]; omega, this]
      simp
theorem StRuns.of_own {w : World} {base : Nat} {v : Value} {n : Nat} {l : List St} {e : TypeId} (h : w.ownsRow base e 3 v n (stCells l)) : StRuns w v l := by
  obtain ⟨hlen, hv⟩ := h
  have hn : l.length = n := by rw [stCells_len] at hlen; omega
  subst hn
  rcases hv with ⟨rfl, h0⟩ | ⟨g, cap, cur, rfl, _, hg, hle, hcap, hsz, htk⟩
  · exact ⟨none, 0, by rw [h0], by omega, by simp [maxLen], fun hp => absurd hp (by omega)⟩
  · refine ⟨_, cap, rfl, hle, ⟨hcap, fun h => by cases h⟩, fun _ => ⟨g, 0, rfl, (Array.getElem?_eq_some_iff.1 hg).1, fun j hj => ?_⟩⟩
    have key : ∀ i, i < 3 → w.cell? ⟨g, 0 + j * 3 + i, none⟩ = (stCell (l.getD j (0, 0, 0)))[i]? := by
      intro i hi
      rw [cell_of_row w g (0 + j * 3 + i) cur e (0, 0) hg]
      have h2 := stCells_at l j i hj hi
      rw [← htk, List.getElem?_take, if_pos (by omega)] at h2
      simpa using h2
    exact ⟨key 0 (by decide), key 1 (by decide), key 2 (by decide)⟩
/-- append(v, u...) of a row of steps of the call's own and a list of steps. -/
theorem append_steps (w : World) (base : Nat) (v : Value) (n : Nat) (xs : List Value) (hown : w.ownsRow base 42 3 v n xs) (u : Value) (ys : List St) (hu : StRuns w u ys) (hbase : base ≤ w.heap.size) (hlen : (n + ys.length) * 16 ≤ 140737488355328) :
    ∃ v' w', (Builtin.append_ #[23, 23] 23 #[v, u]).run Tryd.prog w = .ok v' w' ∧ w'.ownsRow base 42 3 v' (n + ys.length) (xs ++ stCells ys) ∧ w.grownBy w' v.ownBlock ∧ (v'.ownBlock = v.ownBlock ∨ v'.ownBlock = some w.heap.size) := by
  obtain ⟨i0, hi, hz0, hz1, hz2⟩ := info_parts info_st
  obtain ⟨A, c, rfl, hxc, ⟨hxm, hc0⟩, hxx⟩ := hu
  cases A with
  | none =>
    obtain rfl := hc0 rfl
    have h0 : ys = [] := List.eq_nil_of_length_eq_zero (by omega)
    subst h0
    exact ⟨v, w, run_append_owned_none (P := Tryd.prog) (w := w) base 23 23 42 i0 3 Tryd.underlying23 hi v n xs hown, by simpa [stCells] using hown, World.grownBy.refl w _, .inl rfl⟩
  | some ad =>
    have hcells : ∀ j u, (stCells ys)[j]? = some u → w.cell? (ad.add j) = some u := by
      intro j u hj
      have hjl : j < (stCells ys).length := (List.getElem?_eq_some_iff.1 hj).1
      rw [stCells_len] at hjl
      obtain ⟨b, o, e, _, hc⟩ := hxx (by omega)
      injection e with e
      subst e
      have hq : j / 3 < ys.length := by omega
      have h3 := stCells_at ys (j / 3) (j % 3) hq (Nat.mod_lt _ (by decide))
      rw [show j / 3 * 3 + j % 3 = j by omega, hj] at h3
      obtain ⟨c0, c1, c2⟩ := hc (j / 3) hq
      rw [addr_add]
      have hm : j % 3 = 0 ∨ j % 3 = 1 ∨ j % 3 = 2 := by omega
      rcases hm with hm | hm | hm
      · rw [hm] at h3
        rw [show o + j = o + j / 3 * 3 by omega, c0]; exact h3.symm
      · rw [hm] at h3
        rw [show o + j = o + j / 3 * 3 + 1 by omega, c1]; exact h3.symm
      · rw [hm] at h3
        rw [show o + j = o + j / 3 * 3 + 2 by omega, c2]; exact h3.symm
    have hone : ∀ u ∈ stCells ys, u.oneCell' = true := by
      intro u hu
      obtain ⟨p, _, hp⟩ := List.mem_flatMap.1 hu
      exact st_one p u hp
    obtain ⟨v', w', hrun, h2, h3, _, h5⟩ := run_append_own_at (P := Tryd.prog) w base 23 23 42 i0 _ 3 16 Tryd.underlying23 hi hz0 hz1 hz2 rfl (by decide) v n xs hown ad ys.length c (stCells ys) (by rw [stCells_len]) hcells hone (by unfold maxLen; omega) hlen hbase
    exact ⟨v', w', hrun, h2, h3, h5⟩
end Go.Proofs.YthigbnklekdemaaDoor
