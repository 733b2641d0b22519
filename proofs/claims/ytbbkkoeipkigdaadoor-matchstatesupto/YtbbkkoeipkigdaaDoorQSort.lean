/- A row of rules of the call's own, sorted by the library by sides and cost. -/
import Derived.Test.YtbbkkoeipkigdaaDoorDSortG
import Derived.Test.YtbbkkoeipkigdaaDoorPk14
import Derived.Test.YtbbkkoeipkigdaaDoorQCpt
import Derived.Test.YtbbkkoeipkigdaaDoorShelf2
namespace Go.Proofs.YtbbkkoeipkigdaaDoor
open Go.RowKit Go.Shelf Go.Lib
open Go.Sort (grow heap_grow_old putRow mapBlock onCells SWO PermIn SortedIn HoldsK flatK get_flatK size_flatK)
set_option linter.unusedSimpArgs false
set_option linter.unusedVariables false

theorem cheap_lays (blk off size : Nat) (w : World) : CmpLays Tryd.prog 45 #[] blkCell 3 cmpR blk off size w :=
  fun _ _ _ _ x y => cheaper_lays x y _
theorem rsort_any (blk off cap : Nat) (d : Array Blk) (w : World) (hH : HoldsK blkCell 3 w blk off d) (hblk : blk < w.heap.size) (hsz : d.size < 4611686018427387904) :
    Calls Tryd.prog 44 #[.slice (some ⟨blk, off, none⟩) d.size cap, .func (.func 45) #[] #[]] w fun e w' =>
      e = .returned (.tuple #[]) ∧ ∃ d' n os, PermIn 0 d.size d d' ∧ SortedIn (ltOf cmpR) 0 d.size d' ∧ w' = sortWorldK blkCell 3 w blk off n d' os :=
  AnyQ.slices_SortFunc Tryd.sortR 3 Tryd.isAgg55 Tryd.sizeOf55 blkCell (fun _ => rfl) rl_one cmpR swo_cmpR 45 #[] blk off cap d w (enters_of Tryd.func45 (by kernel_rfl) rfl) (cheap_lays _ _ _ _) hH hblk hsz
theorem rowAt_holds {w : World} {g : Nat} {L : List Blk} (hg : g < w.heap.size) (h : HoldsK blkCell 3 w g 0 L.toArray) : RowAt w g L := by
  refine ⟨hg, fun j x hj i u hu => ?_, fun j hj => ?_⟩
  · have hi : i < 3 := (List.getElem?_eq_some_iff.1 hu).1
    have hjl : j < L.length := (List.getElem?_eq_some_iff.1 hj).1
    have hlt : j * 3 + i < L.length * 3 := by omega
    have h1 := (h (j * 3 + i) (by simpa using hlt)).1
    obtain ⟨x', hx', hc'⟩ := flat_at L (j * 3 + i) hlt
    rw [show (j * 3 + i) / 3 = j by omega] at hx'
    rw [show (j * 3 + i) % 3 = i by omega] at hc'
    rw [hj] at hx'
    obtain rfl := Option.some.inj hx'
    rw [hu] at hc'
    rw [← Option.some.inj hc'] at h1
    simpa using h1
  · have := (h j (by simpa using hj)).2
    simpa using this
/-- slices.SortFunc over a row of rules of the call's own. -/
theorem rsort_own (L : List Blk) (n g cap base : Nat) (w : World) (hn : L.length = n) (hown : w.ownsRow base 55 3 (.slice (some ⟨g, 0, none⟩) n cap) n (gCells blkCell L)) (hl : n ≤ 2000000) (hbase : base ≤ w.heap.size) :
    Calls Tryd.prog 44 #[.slice (some ⟨g, 0, none⟩) n cap, .func (.func 45) #[] #[]] w fun e w' => e = .returned (.tuple #[]) ∧
      ∃ d : List Blk, d.Perm L ∧ SrtR d ∧ RowAt w' g d ∧ base ≤ g ∧ n ≤ cap ∧ cap ≤ maxLen ∧ Below base w w' := by
  have hg := GRuns.of_own rl_ln hn hown
  rcases hown.2 with ⟨e, _⟩ | ⟨g', cap', cur, e0, hb, hh, h1, h2, h3, h4⟩
  · cases e
  simp only [Value.slice.injEq, Option.some.injEq, Addr.mk.injEq] at e0
  obtain ⟨⟨rfl, _⟩, _, rfl⟩ := e0
  have hgl : g < w.heap.size := (Array.getElem?_eq_some_iff.1 hh).1
  have hH := holds_blks hn hg (own_thaw hown)
  have hs : L.toArray.size = n := by simpa using hn
  have c := rsort_any g 0 cap L.toArray w hH hgl (by rw [hs]; omega)
  rw [hs] at c
  refine c.mono ?_
  rintro e w' ⟨rfl, d', q, os, hp, hso, rfl⟩
  obtain ⟨hp1, _, hp3⟩ := hp
  have hds : d'.size = n := by rw [hp1]; exact hs
  have e1 : d'.extract 0 n = d' := by rw [← hds]; simp
  have e2 : L.toArray.extract 0 n = L.toArray := by rw [← hs]; simp
  rw [e1, e2] at hp3
  have hdn : d'.toList.length = n := by simpa using hds
  have hH' := holdsK_sortWorldK_c blkCell 3 w g 0 L.toArray d' q os hH hgl (by rw [hds, hs])
  have hr := rowAt_holds (L := d'.toList) (Nat.lt_of_lt_of_le hgl (size_sortWorldK_c blkCell 3 w g 0 q d' os)) (by simpa using hH')
  refine ⟨rfl, d'.toList, by simpa using hp3, ?_, hr, hb, h1, h2, (Below.refl base w).grown heap_sortB hbase (fun k hk => by cases hk; exact hb)⟩
  unfold SrtR
  rw [List.pairwise_iff_getElem]
  intro i j hi hj hij
  have := hso i j (Nat.zero_le _) hij (by rw [← hdn]; exact hj)
  rw [ltOf_cmpR] at this
  have ei : d'[i]! = d'.toList[i] := by
    have : i < d'.size := by simpa using hi
    simp [this]
  have ej : d'[j]! = d'.toList[j] := by
    have : j < d'.size := by simpa using hj
    simp [this]
  rw [ei, ej] at this
  exact this
end Go.Proofs.YtbbkkoeipkigdaaDoor
