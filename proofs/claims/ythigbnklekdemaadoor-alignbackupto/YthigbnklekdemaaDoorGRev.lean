/- slices.Reverse at steps: the library's contract at this program's numbers, and what it does to a row of the call's own. -/
import Derived.Shelf.SlicesQ.Reverse
import Derived.Shelf.SlGeneric
import Derived.Test.YthigbnklekdemaaDoorAStep
import Derived.Test.YthigbnklekdemaaDoorGLay
namespace Go.Proofs
open Go.Shelf
def Tryd.lays35_ren : Go.Shelf.Ren := ⟨fun | 35 => 25 | n => n, fun | 22 => 23 | 23 => 42 | 3 => 3 | 4 => 4 | 0 => 0 | n => n, fun | n => n⟩
theorem Tryd.lays35 : Go.Proofs.SlLaysE0.n35 Tryd.prog Tryd.lays35_ren := {
  mixed := by kernel_rfl
  f35 := ⟨Tryd.f25.name, by decide, Tryd.func25.trans (congrArg some (by kernel_rfl))⟩
  t0 := Tryd.underlying0
  a0 := Tryd.isAgg0
  z0 := Tryd.sizeOf0
  v0 := Tryd.zeroValue0
  t3 := Tryd.underlying3
  a3 := Tryd.isAgg3
  z3 := Tryd.sizeOf3
  v3 := Tryd.zeroValue3
  t4 := Tryd.underlying4
  a4 := Tryd.isAgg4
  z4 := Tryd.sizeOf4
  v4 := Tryd.zeroValue4
  t22 := Tryd.underlying23
  a22 := Tryd.isAgg23
  z22 := Tryd.sizeOf23
  v22 := Tryd.zeroValue23 }
end Go.Proofs
namespace Go.Proofs.YthigbnklekdemaaDoor
open Go.RowKit Go.Shelf Go.Sort

theorem own_holds {w : World} {base g cap : Nat} {l : List St} (h : w.ownsRow base 42 3 (.slice (some ⟨g, 0, none⟩) l.length cap) l.length (stCells l)) : HoldsK stCell 3 w g 0 l.toArray := by
  intro j hj
  have hj' : j < l.length * 3 := by simpa using hj
  have hfr : w.frozen? ⟨g, 0 + j, none⟩ = false := by
    rcases h.2 with ⟨h0, _⟩ | ⟨g', cap', cur, e1, hb, hg, h1, h2, h3, h4⟩
    · cases h0
    · simp only [Value.slice.injEq, Option.some.injEq, Addr.mk.injEq] at e1
      obtain ⟨⟨rfl, _⟩, _, rfl⟩ := e1
      simp [World.frozen?, hg]
  refine ⟨?_, hfr⟩
  rw [get_flatK stCell 3 l.toArray j (by simpa using hj')]
  have hq : j / 3 < l.length := by omega
  have h3 := stCells_at l (j / 3) (j % 3) hq (Nat.mod_lt _ (by decide))
  rw [show j / 3 * 3 + j % 3 = j by omega] at h3
  have e : l.toArray[j / 3]! = l.getD (j / 3) (0, 0, 0) := by
    rw [getElem!_pos l.toArray (j / 3) (by simpa using hq)]
    simp [List.getD_eq_getElem?_getD, hq]
  rw [e]
  have hm : j % 3 < (stCell (l.getD (j / 3) (0, 0, 0))).length := by show j % 3 < 3; omega
  rw [List.getElem?_eq_getElem hm] at h3
  rw [Nat.zero_add, getElem!_pos _ (j % 3) hm]
  exact own_cell' h j hj' _ h3

theorem reverse_any (v : Value) (l : List St) (base : Nat) (w : World) (h : w.ownsRow base 42 3 v l.length (stCells l)) (hl : l.length ≤ 1000000) :
    Calls Tryd.prog 25 #[v] w fun e w' => e = .returned (.tuple #[]) ∧ StRuns w' v l.reverse ∧ Below base w w' ∧ (∀ b, v.ownBlock ≠ some b → w'.heap[b]? = w.heap[b]?) ∧ w'.heap.size = w.heap.size := by
  rcases h.2 with ⟨rfl, h0⟩ | ⟨g, cap, cur, rfl, hb, hg, h1, h2, h3, h4⟩
  · have hnil : l = [] := List.eq_nil_of_length_eq_zero h0
    subst hnil
    refine (AnyQ.slices_Reverse_empty Tryd.lays35 none 0 w).mono ?_
    rintro e w' ⟨rfl, rfl⟩
    exact ⟨rfl, StRuns.nil_ _, Below.refl _ _, fun _ _ => rfl, rfl⟩
  · have hH := own_holds h
    have c := AnyQ.slices_Reverse Tryd.lays35 3 Tryd.isAgg42 Tryd.sizeOf42 stCell (fun _ => rfl) st_one g 0 cap l.toArray w hH (by simp; omega)
    rw [show (l.toArray).size = l.length by simp] at c
    refine Calls.mono c ?_
    rintro e w' ⟨rfl, n, rfl⟩
    have hH' := holdsK_putRowK stCell 3 (Sort.ahead w n) g 0 l.toArray l.toArray.reverse (holdsK_ahead stCell 3 w n g 0 _ hH) (by simp)
    have hblk : ∀ b, b ≠ g → (putRowK stCell 3 (Sort.ahead w n) g 0 l.toArray.reverse).heap[b]? = w.heap[b]? := fun b hb => by
      show (Array.modify _ _ _)[b]? = _
      rw [Array.getElem?_modify, if_neg (fun e => hb e.symm)]
      rfl
    have hsz : (putRowK stCell 3 (Sort.ahead w n) g 0 l.toArray.reverse).heap.size = w.heap.size := by
      show (Array.modify _ _ _).size = _
      rw [Array.size_modify]
      rfl
    have hglt : g < w.heap.size := (Array.getElem?_eq_some_iff.1 hg).1
    refine ⟨rfl, ⟨_, cap, by simp, by simpa using h1, ⟨h2, fun e => by cases e⟩, fun h0 => ⟨g, 0, rfl, by rw [hsz]; exact hglt, fun j hj => ?_⟩⟩, ⟨rfl, rfl, rfl, Nat.le_of_eq hsz.symm, fun k hk => hblk k (by omega)⟩, fun b hb => hblk b (fun e => hb (by rw [e]; rfl)), hsz⟩
    have hj' : j < l.toArray.reverse.size := by simpa using hj
    have e : l.toArray.reverse[j]! = l.reverse.getD j (0, 0, 0) := by
      rw [getElem!_pos _ j hj']
      have hj2 : j < l.reverse.length := hj
      rw [List.getD_eq_getElem?_getD, List.getElem?_eq_getElem hj2]
      simp
    have k0 := (hH'.cell hj' (c := 0) (by decide)).1
    have k1 := (hH'.cell hj' (c := 1) (by decide)).1
    have k2 := (hH'.cell hj' (c := 2) (by decide)).1
    rw [e] at k0 k1 k2
    exact ⟨k0, k1, k2⟩
end Go.Proofs.YthigbnklekdemaaDoor
