/- The document's answers for one number: IsRune, Letter, a rune's bytes. -/
import Derived.Test.YthigbnklekdemaaDoorLetters
import Derived.Test.YthigbnklekdemaaDoorPlain2
import Derived.IntWalk
namespace Go.Proofs.YthigbnklekdemaaDoor
open Go.RowKit Go.Shelf

theorem rune_cases (r : Int) : r < 0 ∨ (0 ≤ r ∧ r ≤ 55295) ∨ (55296 ≤ r ∧ r ≤ 57343) ∨ (57344 ≤ r ∧ r ≤ 1114111) ∨ 1114112 ≤ r := by omega
theorem vr_no (r : Int) (h : r < 0 ∨ (55296 ≤ r ∧ r ≤ 57343) ∨ 1114112 ≤ r) : Lib.validRune r = false := by
  unfold Lib.validRune; simp only [decide_eq_false_iff_not]; omega
theorem vr_yes (r : Int) (h : (0 ≤ r ∧ r ≤ 55295) ∨ (57344 ≤ r ∧ r ≤ 1114111)) : Lib.validRune r = true := by
  unfold Lib.validRune; simp only [decide_eq_true_eq]; omega

set_option maxRecDepth 100000 in
set_option maxHeartbeats 1000000 in
theorem isRune_any (r : Int) (w : World) : Calls Tryd.prog 31 #[.int .i32 r] w fun e w' => e = .returned (.bool (Lib.validRune r)) ∧ w = w' := by
  rcases rune_cases r with h | ⟨h1, h2⟩ | ⟨h1, h2⟩ | ⟨h1, h2⟩ | h
  · have d1 : decide (0 ≤ r) = false := by simp; omega
    go_enter Tryd.func31, Tryd.ntmps31
    go_wp2
    go_ret
    exact ⟨ret_bool (by rw [vr_no _ (by omega)]), rfl⟩
  · have d2 : decide (55296 ≤ r) = false := by simp; omega
    go_enter Tryd.func31, Tryd.ntmps31
    go_wp2
    go_ret
    exact ⟨ret_bool (by rw [vr_yes _ (by omega)]), rfl⟩
  · have h0 : 0 ≤ r := by omega
    have h3 : r ≤ 1114111 := by omega
    go_enter Tryd.func31, Tryd.ntmps31
    go_wp2
    go_ret
    exact ⟨ret_bool (by rw [vr_no _ (by omega)]), rfl⟩
  · have h0 : 0 ≤ r := by omega
    have h3 : 55296 ≤ r := by omega
    have d2 : decide (r ≤ 57343) = false := by simp; omega
    go_enter Tryd.func31, Tryd.ntmps31
    go_wp2
    go_ret
    exact ⟨ret_bool (by rw [vr_yes _ (by omega)]), rfl⟩
  · have h0 : 0 ≤ r := by omega
    have d1 : decide (r ≤ 1114111) = false := by simp; omega
    go_enter Tryd.func31, Tryd.ntmps31
    go_wp2
    go_ret
    exact ⟨ret_bool (by rw [vr_no _ (by omega)]), rfl⟩

theorem cells_enc (r : Int) : (Lib.byteCells (Lib.encodeRune r)) = Lib.runeCells r := Lib.byteCells_encodeRune r

set_option maxRecDepth 100000 in
set_option maxHeartbeats 1000000 in
theorem bytes_any (r : Int) (w : World) (h : Lib.validRune r = true) :
    Calls Tryd.prog 46 #[.int .i32 r] w fun e w' => e = .returned (.slice (some ⟨w.heap.size, 0, none⟩) (Lib.encodeRune r).length (Lib.encodeRune r).length) ∧ w' = w.alloc (.cells (Lib.byteCells (Lib.encodeRune r)).toArray 5) := by
  have hv := rune_bd h
  rw [cells_enc]
  unfold Lib.runeCells Lib.encodeRune
  by_cases a : r ≤ 127
  · have a0 : 0 ≤ r := by omega
    rw [Lib.encodeRuneZ_one (by omega) (by omega)]
    go_enter Tryd.func46, Tryd.ntmps46
    go_wp2
    go_ret
    exact ⟨rfl, rfl⟩
  · by_cases b : r ≤ 2047
    · have a0 : 128 ≤ r := by omega
      rw [Lib.encodeRuneZ_two (by omega) (by omega)]
      go_enter Tryd.func46, Tryd.ntmps46
      go_wp2
      go_ret
      exact ⟨rfl, rfl⟩
    · by_cases c : r ≤ 65535
      · have a0 : 2048 ≤ r := by omega
        rw [Lib.encodeRuneZ_three (by omega)]
        go_enter Tryd.func46, Tryd.ntmps46
        go_wp2
        go_ret
        exact ⟨rfl, rfl⟩
      · have a0 : 65536 ≤ r := by omega
        have a1 : r ≤ 1114111 := by omega
        rw [Lib.encodeRuneZ_four (by omega) (by omega)]
        go_enter Tryd.func46, Tryd.ntmps46
        go_wp2
        go_ret
        exact ⟨rfl, rfl⟩

theorem letter_cases2 (r : Int) : r < 65 ∨ (65 ≤ r ∧ r ≤ 90) ∨ (91 ≤ r ∧ r ≤ 96) ∨ (97 ≤ r ∧ r ≤ 122) ∨ (123 ≤ r ∧ r ≤ 191) ∨ (215 ≤ r ∧ r ≤ 215) ∨ (247 ≤ r ∧ r ≤ 247) ∨ (8192 ≤ r ∧ r ≤ 8303) ∨ (192 ≤ r ∧ r ≤ 214) ∨ (216 ≤ r ∧ r ≤ 246) ∨ (248 ≤ r ∧ r ≤ 8191) ∨ 8304 ≤ r := by omega
end Go.Proofs.YthigbnklekdemaaDoor
