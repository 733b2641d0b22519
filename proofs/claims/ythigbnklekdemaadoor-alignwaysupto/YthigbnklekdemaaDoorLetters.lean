/- runes.Letter, Letters, Token: what each answers, for every number and every string. -/
import Derived.Test.YthigbnklekdemaaDoorDecode
namespace Go.Proofs.YthigbnklekdemaaDoor
open Go.RowKit Go.Shelf
attribute [local go_sem] Oper.semAt_some

theorem letter_cases (r : Int) : r < 65 ∨ (65 ≤ r ∧ r ≤ 90) ∨ (91 ≤ r ∧ r ≤ 96) ∨ (97 ≤ r ∧ r ≤ 122) ∨ (123 ≤ r ∧ r ≤ 191) ∨ r = 215 ∨ r = 247 ∨ (8192 ≤ r ∧ r ≤ 8303) ∨ (192 ≤ r ∧ r ≤ 214) ∨ (216 ≤ r ∧ r ≤ 246) ∨ (248 ≤ r ∧ r ≤ 8191) ∨ 8304 ≤ r := by omega
theorem letter_hi (r : Int) (h : 192 ≤ r) (h1 : r ≠ 215) (h2 : r ≠ 247) (h3 : ¬ (8192 ≤ r ∧ r ≤ 8303)) : Lib.validRune r = letterB r := by
  unfold letterB
  cases hv : Lib.validRune r
  · symm; simp only [decide_eq_false_iff_not]; intro h; rcases h with h | h | h
    · omega
    · omega
    · exact absurd h.2.1 (by simp)
  · symm; simp only [decide_eq_true_eq]; right; right; exact ⟨h, by simp, h1, h2, h3⟩
theorem letter_no (r : Int) (h : r < 65 ∨ (91 ≤ r ∧ r ≤ 96) ∨ (123 ≤ r ∧ r ≤ 191) ∨ r = 215 ∨ r = 247 ∨ (8192 ≤ r ∧ r ≤ 8303)) : letterB r = false := by
  unfold letterB; simp only [decide_eq_false_iff_not]; intro h'; rcases h' with h' | h' | ⟨h1, h2, h3, h4, h5⟩ <;> omega
theorem letter_yes (r : Int) (h : (65 ≤ r ∧ r ≤ 90) ∨ (97 ≤ r ∧ r ≤ 122)) : letterB r = true := by
  unfold letterB; simp only [decide_eq_true_eq]; omega

/-- Letters: some bytes, and nothing but letters. -/
def lettersB (l : List UInt8) : Bool := !l.isEmpty && (items l).all letterB


def decErr (l : List UInt8) : Int := if Lib.validD l then 0 else 3
def decRunes (l : List UInt8) : List Int := if Lib.validD l then items l else []
/-- Decode, its answer read as a list. -/
theorem decode_runs (s : ByteArray) (w : World) (hs : s.size * 4 ≤ 140737488355328) (hT : Tabs w) (hlow : 0 < w.heap.size ∧ 1 < w.heap.size) :
    Calls Tryd.prog 22 #[.string s] w fun e w' => ∃ A c, e = .returned (.tuple #[.slice A (decRunes s.data.toList).length c, .int .i64 (decErr s.data.toList)]) ∧ Runs w' (.slice A (decRunes s.data.toList).length c) (decRunes s.data.toList) ∧ Below w.heap.size w w' := by
  refine (decode_any s w hs hT hlow).mono ?_
  rintro e w' ⟨v, rfl, hrow, hb⟩
  have hr : Runs w' v (decRunes s.data.toList) := Runs.of_own hrow
  have hr' := hr
  obtain ⟨A, c, rfl, _⟩ := hr'
  exact ⟨A, c, rfl, hr, hb⟩

def tokErr (l : List UInt8) : Int := if Lib.validD l then (if (items l).length = 0 then 4 else if 64 < (items l).length then 5 else 0) else 3
def tokRunes (l : List UInt8) : List Int := if tokErr l = 0 then items l else []

set_option maxRecDepth 100000 in
set_option maxHeartbeats 1000000 in
theorem token_any (s : ByteArray) (w : World) (hs : s.size * 4 ≤ 140737488355328) (hT : Tabs w) (hlow : 0 < w.heap.size ∧ 1 < w.heap.size) :
    Calls Tryd.prog 21 #[.string s] w fun e w' => ∃ A c, e = .returned (.tuple #[.slice A (tokRunes s.data.toList).length c, .int .i64 (tokErr s.data.toList)]) ∧ Runs w' (.slice A (tokRunes s.data.toList).length c) (tokRunes s.data.toList) ∧ Below w.heap.size w w' := by
  have c := decode_runs s w hs hT hlow
  cases hv : Lib.validD s.data.toList
  · have e1 : decErr s.data.toList = 3 := by simp [decErr, hv]
    have e2 : decRunes s.data.toList = [] := by simp [decRunes, hv]
    have t1 : tokErr s.data.toList = 3 := by simp [tokErr, hv]
    have t2 : tokRunes s.data.toList = [] := by simp [tokRunes, t1]
    rw [e1, e2] at c
    rw [t1, t2]
    have C := Lib.hid c
    clear c e1 e2 t1 t2 hv
    go_enter Tryd.func21, Tryd.ntmps21
    go_wp2_with fail
    refine C.out.mono ?_
    rintro e w' ⟨A, c, rfl, hr, hb⟩
    go_wp2
    go_ret2
    exact ⟨none, 0, rfl, Runs.nil_ _, hb⟩
  · have e1 : decErr s.data.toList = 0 := by simp [decErr, hv]
    have e2 : decRunes s.data.toList = items s.data.toList := by simp [decRunes, hv]
    rw [e1, e2] at c
    have t1 : tokErr s.data.toList = if (items s.data.toList).length = 0 then 4 else if 64 < (items s.data.toList).length then 5 else 0 := by simp [tokErr, hv]
    have C := Lib.hid c
    clear c e1 e2
    by_cases h0 : (items s.data.toList).length = 0
    · rw [if_pos h0] at t1
      have t2 : tokRunes s.data.toList = [] := by simp [tokRunes, t1]
      rw [t1, t2]
      rw [h0] at C
      clear t1 t2 hv h0
      go_enter Tryd.func21, Tryd.ntmps21
      go_wp2_with fail
      refine C.out.mono ?_
      rintro e w' ⟨A, c, rfl, hr, hb⟩
      go_wp2
      go_ret2
      exact ⟨none, 0, rfl, Runs.nil_ _, hb⟩
    · rw [if_neg h0] at t1
      by_cases h1 : 64 < (items s.data.toList).length
      · rw [if_pos h1] at t1
        have t2 : tokRunes s.data.toList = [] := by simp [tokRunes, t1]
        rw [t1, t2]
        obtain ⟨n, hn⟩ : ∃ n, (items s.data.toList).length = n := ⟨_, rfl⟩
        rw [hn] at C h0 h1
        have h2 : ((n : Int) == 0) = false := by simp; omega
        clear t1 t2 hv hn
        go_enter Tryd.func21, Tryd.ntmps21
        go_wp2_with fail
        refine C.out.mono ?_
        rintro e w' ⟨A, c, rfl, hr, hb⟩
        go_wp2
        go_ret2
        exact ⟨none, 0, rfl, Runs.nil_ _, hb⟩
      · rw [if_neg h1] at t1
        have t2 : tokRunes s.data.toList = items s.data.toList := by simp [tokRunes, t1]
        rw [t1, t2]
        obtain ⟨n, hn⟩ : ∃ n, (items s.data.toList).length = n := ⟨_, rfl⟩
        rw [hn] at C h0 h1 ⊢
        have h2 : ((n : Int) == 0) = false := by simp; omega
        clear t1 t2 hv hn
        go_enter Tryd.func21, Tryd.ntmps21
        go_wp2_with fail
        refine C.out.mono ?_
        rintro e w' ⟨A, c, rfl, hr, hb⟩
        go_wp2
        go_ret2
        exact ⟨A, c, rfl, hr, hb⟩
end Go.Proofs.YthigbnklekdemaaDoor
