/- strings.Clone, count.renew: blocks get texts of their own; what they say stays. -/
import Derived.Test.YtbbkkoeipkigdaaDoorPk8
import Derived.Test.YtbbkkoeipkigdaaDoorPk13
namespace Go.Proofs.YtbbkkoeipkigdaaDoor
open Go.RowKit Go.Shelf
set_option linter.unusedSimpArgs false
set_option linter.unusedVariables false

set_option maxRecDepth 100000 in
theorem clone_any (s : ByteArray) (w : World) (h : s.size ≤ 2000000) : Calls Tryd.prog 67 #[.string s] w fun e w' => e = .returned (.string s) ∧ Below w.heap.size w w' := by
  have c := Tryd.stringslite_Clone s w (by omega)
  have C := Lib.hid c; clear c
  go_enter Tryd.func67, Tryd.ntmps67
  go_wp2_with fail
  refine C.out.mono ?_
  rintro e w1 ⟨rfl, b1⟩
  have B1 := Lib.hid b1; clear b1
  go_wp2
  go_ret
  exact ⟨rfl, B1.out⟩

/-- A store of what is there. -/
theorem set_same {w : World} {g j : Nat} {u : Value} (h : w.cell? ⟨g, j, none⟩ = some u) : w.setCell ⟨g, j, none⟩ u = w := by
  have hm : (w.heap.modify g fun
      | .cells c elem frozen => .cells (if (⟨g, j, none⟩ : Addr).spot.isSome then c else c.setIfInBounds j u) elem frozen
      | o => o) = w.heap := by
    apply Array.ext
    · simp
    · intro i h1 h2
      rw [Array.getElem_modify]
      split
      · rename_i e
        subst e
        unfold World.cell? at h
        simp only at h
        rw [Array.getElem?_eq_getElem h2] at h
        generalize w.heap[g] = ob at h ⊢
        cases ob with
        | cells cs t fr =>
          simp only [Option.isSome_none] at h ⊢
          congr 1
          apply Array.ext
          · simp
          · intro k k1 k2
            simp only [Bool.false_eq_true, if_false]
            rw [Array.getElem_setIfInBounds]
            split
            · rename_i e
              subst e
              have h' : cs[j]? = some u := by simpa using h
              rw [Array.getElem?_eq_getElem k2] at h'
              exact (Option.some.inj h').symm
            · rfl
        | _ => rfl
      · rfl
  unfold World.setCell
  exact congrArg (fun hp => { w with heap := hp }) hm

/-- What the region keeps: the block in the row, its copy, all that is old. -/
structure RenK (w : World) (g p c : Nat) (x : Blk) (w' : World) : Prop where
  a0 : w'.cell? ⟨g, p, none⟩ = some (.string x.1)
  a1 : w'.cell? ⟨g, p + 1, none⟩ = some (.string x.2.1)
  b0 : w'.cell? ⟨c, 0, none⟩ = some (.string x.1)
  b1 : w'.cell? ⟨c, 1, none⟩ = some (.string x.2.1)
  f0 : w'.frozen? ⟨g, p, none⟩ = false
  f1 : w'.frozen? ⟨g, p + 1, none⟩ = false
  lt : g < w'.heap.size
  ltc : c < w'.heap.size
  bel : Below w.heap.size w w'
theorem RenK.step {w : World} {g p c : Nat} {x : Blk} {w' w'' : World} (h : RenK w g p c x w') (hb : Below w'.heap.size w' w'') : RenK w g p c x w'' :=
  ⟨(hb.cell (p := ⟨g, _, none⟩) h.lt).trans h.a0, (hb.cell (p := ⟨g, _, none⟩) h.lt).trans h.a1, (hb.cell (p := ⟨c, _, none⟩) h.ltc).trans h.b0, (hb.cell (p := ⟨c, _, none⟩) h.ltc).trans h.b1, (hb.frozen (p := ⟨g, _, none⟩) h.lt).trans h.f0, (hb.frozen (p := ⟨g, _, none⟩) h.lt).trans h.f1, Nat.lt_of_lt_of_le h.lt hb.size, Nat.lt_of_lt_of_le h.ltc hb.size, h.bel.trans (hb.mono h.bel.size)⟩

end Go.Proofs.YtbbkkoeipkigdaaDoor
