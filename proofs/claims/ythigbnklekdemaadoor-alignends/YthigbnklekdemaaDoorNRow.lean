/- Rows of numbers ([]int) that a call has made for itself, and rows of such rows. -/
import Derived.Test.YthigbnklekdemaaDoorBase
import Derived.Test.YthigbnklekdemaaDoorProg
import Derived.OwnWalk
namespace Go.Proofs.YthigbnklekdemaaDoor
open Go.RowKit

def cellsN (l : List Nat) : Array Value := (l.map fun x : Nat => Value.int .i64 (x : Int)).toArray
/-- Block g is a row of numbers. -/
def RowN (w : World) (g : Nat) (l : List Nat) : Prop := w.heap[g]? = some (.cells (cellsN l) 3)
theorem RowN.cell {w : World} {g : Nat} {l : List Nat} (h : RowN w g l) (j : Nat) (hj : j < l.length) : w.cell? ⟨g, j, none⟩ = some (.int .i64 ((l.getD j 0 : Nat) : Int)) := by
  rw [cell_of_row w g j (cellsN l) _ (0, 0) h]
  simp [cellsN, List.getD_eq_getElem?_getD, hj]
theorem RowN.frozen {w : World} {g : Nat} {l : List Nat} (h : RowN w g l) (j : Nat) : w.frozen? ⟨g, j, none⟩ = false := by
  have h' : w.heap[g]? = some (.cells (cellsN l) 3 (0, 0)) := h
  simp [World.frozen?, h']
theorem RowN.lt {w : World} {g : Nat} {l : List Nat} (h : RowN w g l) : g < w.heap.size := (Array.getElem?_eq_some_iff.1 h).1
theorem RowN.set {w : World} {g : Nat} {l : List Nat} (h : RowN w g l) (j x : Nat) : RowN (w.setCell ⟨g, j, none⟩ (.int .i64 (x : Int))) g (l.set j x) := by
  have h' : w.heap[g]? = some (.cells (cellsN l) 3 (0, 0)) := h
  have e : cellsN (l.set j x) = (cellsN l).setIfInBounds j (.int .i64 (x : Int)) := by simp [cellsN, List.map_set]
  show _ = some (Obj.cells (cellsN (l.set j x)) _)
  rw [setCell_eq_setRow w g j (cellsN l) _ (0, 0) _ h', e]
  exact setRow_heap w g _ _ _ (0, 0) h'
theorem RowN.below {w w' : World} {g B : Nat} {l : List Nat} (h : RowN w g l) (hb : Below B w w') (hB : g < B) : RowN w' g l := (hb.block g hB).trans h

theorem infoI : (Tryd.prog.info? 3).map (fun i => (i.zero, i.size, i.bytes)) = some (some (.int .i64 0), 1, 8) := by kernel_rfl
/-- make([]int, n). -/
theorem make_ints (w : World) (n : Nat) (hn : n ≤ 1000000) : (Instr.makeSlice 55 (.int .i64 (n : Int)) (.int .i64 (n : Int))).run Tryd.prog w =
    .ok (.slice (some ⟨w.heap.size, 0, none⟩) n n) (w.alloc (.cells (cellsN (List.replicate n 0)) 3)) := by
  obtain ⟨i0, hi, hz0, hz1, hz2⟩ := info_parts infoI
  have h := run_make (P := Tryd.prog) w 55 3 i0 _ Tryd.underlying55 hi hz0 .i64 .i64 (n : Int) (n : Int) (by omega) (Int.le_refl _) (by rw [hz2]; omega) (by omega)
  rw [h, hz1]
  have e : madeCells (Value.int .i64 0).cells (n * 1) = cellsN (List.replicate n 0) := by
    rw [Nat.mul_one]
    apply Array.ext
    · simp [size_madeCells, cellsN]
    · intro i h1 h2
      simp [madeCells, cellsN, Value.cells, Nat.mod_one]
  simp only [Int.toNat_natCast]
  rw [e]

/-- A row of slices: so many are there, each of m; the others are nil. -/
def cellsS (m : Nat) (gs : List (Option Nat)) : Array Value := (gs.map fun g => match g with | some b => Value.slice (some ⟨b, 0, none⟩) m m | none => Value.slice none 0 0).toArray
def RowS (w : World) (G m : Nat) (gs : List (Option Nat)) : Prop := w.heap[G]? = some (.cells (cellsS m gs) 55)
theorem RowS.cell {w : World} {G m : Nat} {gs : List (Option Nat)} (h : RowS w G m gs) (j b : Nat) (hj : gs[j]? = some (some b)) : w.cell? ⟨G, j, none⟩ = some (.slice (some ⟨b, 0, none⟩) m m) := by
  rw [cell_of_row w G j (cellsS m gs) _ (0, 0) h]
  simp [cellsS, hj]
theorem RowS.cell0 {w : World} {G m : Nat} {gs : List (Option Nat)} (h : RowS w G m gs) (j : Nat) (hj : gs[j]? = some none) : w.cell? ⟨G, j, none⟩ = some (.slice none 0 0) := by
  rw [cell_of_row w G j (cellsS m gs) _ (0, 0) h]
  simp [cellsS, hj]
theorem RowS.frozen {w : World} {G m : Nat} {gs : List (Option Nat)} (h : RowS w G m gs) (j : Nat) : w.frozen? ⟨G, j, none⟩ = false := by
  have h' : w.heap[G]? = some (.cells (cellsS m gs) 55 (0, 0)) := h
  simp [World.frozen?, h']
theorem RowS.lt {w : World} {G m : Nat} {gs : List (Option Nat)} (h : RowS w G m gs) : G < w.heap.size := (Array.getElem?_eq_some_iff.1 h).1
theorem RowS.set {w : World} {G m : Nat} {gs : List (Option Nat)} (h : RowS w G m gs) (j b : Nat) : RowS (w.setCell ⟨G, j, none⟩ (.slice (some ⟨b, 0, none⟩) m m)) G m (gs.set j (some b)) := by
  have h' : w.heap[G]? = some (.cells (cellsS m gs) 55 (0, 0)) := h
  have e : cellsS m (gs.set j (some b)) = (cellsS m gs).setIfInBounds j (.slice (some ⟨b, 0, none⟩) m m) := by simp [cellsS, List.map_set]
  show _ = some (Obj.cells (cellsS m (gs.set j (some b))) _)
  rw [setCell_eq_setRow w G j (cellsS m gs) _ (0, 0) _ h', e]
  exact setRow_heap w G _ _ _ (0, 0) h'
theorem RowS.below {w w' : World} {G m B : Nat} {gs : List (Option Nat)} (h : RowS w G m gs) (hb : Below B w w') (hB : G < B) : RowS w' G m gs := (hb.block G hB).trans h

theorem infoS : (Tryd.prog.info? 55).map (fun i => (i.zero, i.size, i.bytes)) = some (some (.slice none 0 0), 1, 24) := by kernel_rfl
/-- make([][]int, n). -/
theorem make_rows (w : World) (n m : Nat) (hn : n ≤ 1000000) : (Instr.makeSlice 43 (.int .i64 (n : Int)) (.int .i64 (n : Int))).run Tryd.prog w =
    .ok (.slice (some ⟨w.heap.size, 0, none⟩) n n) (w.alloc (.cells (cellsS m (List.replicate n none)) 55)) := by
  obtain ⟨i0, hi, hz0, hz1, hz2⟩ := info_parts infoS
  have h := run_make (P := Tryd.prog) w 43 55 i0 _ Tryd.underlying43 hi hz0 .i64 .i64 (n : Int) (n : Int) (by omega) (Int.le_refl _) (by rw [hz2]; omega) (by omega)
  rw [h, hz1]
  have e : madeCells (Value.slice none 0 0).cells (n * 1) = cellsS m (List.replicate n none) := by
    rw [Nat.mul_one]
    apply Array.ext
    · simp [size_madeCells, cellsS]
    · intro i h1 h2
      simp [madeCells, cellsS, Value.cells, Nat.mod_one]
  simp only [Int.toNat_natCast]
  rw [e]
end Go.Proofs.YthigbnklekdemaaDoor
