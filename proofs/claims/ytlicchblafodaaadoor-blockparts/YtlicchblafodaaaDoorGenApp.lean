/- append(v, u...) onto a row of the call's own, for rows of any structs. -/
import Derived.Test.YtlicchblafodaaaDoorPk9
namespace Go.Proofs.YtlicchblafodaaaDoor
open Go.RowKit

theorem append_many {P : Program} {α : Type} {enc : α → List Value} {k bytes : Nat} {tS tE : TypeId} {z : Value} (hk : ∀ x, (enc x).length = k) (h1 : ∀ x, ∀ u ∈ enc x, u.oneCell' = true) (hinfo : (P.info? tE).map (fun i => (i.zero, i.size, i.bytes)) = some (some z, k, bytes)) (hzl : z.cells.size = k) (hk0 : 0 < bytes) (hk1 : 0 < k)
    (hU : P.underlying tS = some (.slice tE)) (w : World) (base : Nat) (v : Value) (n : Nat) (xs : List Value) (hown : w.ownsRow base tE k v n xs) (u : Value) (ys : List α) (hu : GRuns enc k w u ys) (hbase : base ≤ w.heap.size) (hlen : (n + ys.length) * bytes ≤ 140737488355328) :
    ∃ v' w', (Builtin.append_ #[tS, tS] tS #[v, u]).run P w = .ok v' w' ∧ w'.ownsRow base tE k v' (n + ys.length) (xs ++ gCells enc ys) ∧
      w.grownBy w' v.ownBlock ∧ (v'.ownBlock = v.ownBlock ∨ v'.ownBlock = some w.heap.size) := by
  obtain ⟨i0, hi, hz0, hz1, hz2⟩ := info_parts hinfo
  obtain ⟨A, c, rfl, hxc, ⟨hxm, hc0⟩, hxx⟩ := hu
  cases A with
  | none =>
    obtain rfl := hc0 rfl
    have h0 : ys = [] := List.eq_nil_of_length_eq_zero (by omega)
    subst h0
    exact ⟨v, w, run_append_owned_none (P := P) (w := w) base tS tS tE i0 k hU hi v n xs hown, by simpa [gCells] using hown, World.grownBy.refl w _, .inl rfl⟩
  | some ad =>
    have hcells : ∀ j u, (gCells enc ys)[j]? = some u → w.cell? (ad.add j) = some u := by
      intro j u hj
      have hjl : j < (gCells enc ys).length := (List.getElem?_eq_some_iff.1 hj).1
      rw [gCells_len hk] at hjl
      have hq : j / k < ys.length := (Nat.div_lt_iff_lt_mul hk1).2 hjl
      obtain ⟨b, o, e, _, hc⟩ := hxx (Nat.lt_of_le_of_lt (Nat.zero_le _) hq)
      have e := Option.some.inj e
      subst e
      obtain ⟨x, hx⟩ : ∃ x, ys[j / k]? = some x := ⟨_, List.getElem?_eq_getElem hq⟩
      have h3 := gCells_at hk ys (j / k) (j % k) x hx (Nat.mod_lt _ hk1)
      have hdm : j / k * k + j % k = j := by rw [Nat.mul_comm]; exact Nat.div_add_mod j k
      rw [hdm, hj] at h3
      have h4 := hc (j / k) x hx (j % k) u h3.symm
      have ea : (⟨b, o, none⟩ : Addr).add j = ⟨b, o + j / k * k + j % k, none⟩ := by rw [Nat.add_assoc, hdm]; unfold Addr.add; simp <;> omega
      rw [ea]; exact h4
    have hone : ∀ u ∈ gCells enc ys, u.oneCell' = true := by
      intro u hu
      obtain ⟨p, _, hp⟩ := List.mem_flatMap.1 hu
      exact h1 p u hp
    obtain ⟨v', w', hrun, h2, h3, _, h5⟩ := run_append_own_at (P := P) w base tS tS tE i0 z k bytes hU hi hz0 hz1 hz2 hzl hk1 v n xs hown ad ys.length c (gCells enc ys) (gCells_len hk ys) hcells hone
      (by have : n + ys.length ≤ (n + ys.length) * bytes := Nat.le_mul_of_pos_right _ hk0; unfold maxLen; omega) hlen hbase
    exact ⟨v', w', hrun, h2, h3, h5⟩
end Go.Proofs.YtlicchblafodaaaDoor
