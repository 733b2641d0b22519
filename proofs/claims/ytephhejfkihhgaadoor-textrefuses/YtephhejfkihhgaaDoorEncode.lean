/- runes.Encode: what it answers, for every list of numbers. -/
import Derived.Test.YtephhejfkihhgaaDoorLetters
namespace Go.Proofs.YtephhejfkihhgaaDoor
open Go.RowKit Go.Shelf

def allRunes (l : List Int) : Bool := l.all Lib.validRune
def encErr (l : List Int) : Int := if allRunes l then 0 else 3
def encS (l : List Int) : List UInt8 := if allRunes l then encL l else []

theorem encL_take (l : List Int) (k : Nat) (h : k < l.length) : encL (l.take (k + 1)) = encL (l.take k) ++ Lib.encodeRune (l.getD k 0) := by
  rw [List.take_succ_eq_append_getElem h, encL_append]
  simp [encL, List.getD_eq_getElem?_getD, h]
theorem all_take (l : List Int) (k : Nat) (h : k < l.length) : allRunes (l.take (k + 1)) = (allRunes (l.take k) && Lib.validRune (l.getD k 0)) := by
  unfold allRunes
  rw [List.take_succ_eq_append_getElem h, List.all_append, List.getD_eq_getElem?_getD, List.getElem?_eq_getElem h]
  simp
theorem all_no (l : List Int) (k : Nat) (h : k < l.length) (hv : Lib.validRune (l.getD k 0) = false) : allRunes l = false := by
  unfold allRunes; rw [List.all_eq_false]
  exact ⟨l.getD k 0, by simp [List.getD_eq_getElem?_getD, h], fun h' => by rw [hv] at h'; cases h'⟩

end Go.Proofs.YtephhejfkihhgaaDoor
