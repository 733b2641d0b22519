/- runes.Letter, Letters, Token: what each answers, for every number and every string. -/
import Derived.Test.YtephhejfkihhgaaDoorDecode
namespace Go.Proofs.YtephhejfkihhgaaDoor
open Go.RowKit Go.Shelf
attribute [local go_sem] Oper.semAt_some

theorem letter_cases (r : Int) : r < 65 ∨ (65 ≤ r ∧ r ≤ 90) ∨ (91 ≤ r ∧ r ≤ 96) ∨ (97 ≤ r ∧ r ≤ 122) ∨ (123 ≤ r ∧ r ≤ 191) ∨ r = 215 ∨ r = 247 ∨ (8192 ≤ r ∧ r ≤ 8303) ∨ (192 ≤ r ∧ r ≤ 214) ∨ (216 ≤ r ∧ r ≤ 246) ∨ (248 ≤ r ∧ r ≤ 8191) ∨ 8304 ≤ r := by omega
theorem letter_hi (r : Int) (h : 192 ≤ r) (h1 : r ≠ 215) (h2 : r ≠ 247) (h3 : ¬ (8192 ≤ r ∧ r ≤ 8303)) : Lib.validRune r = letterB r := by
  unfold letterB
  cases hv : Lib.validRune r
  · symm; simp only [decide_eq_false_iff_not]; intro h; rcases h with h | h | h
    · omega
    · omega
    · exact absurd h.2.1 (by simp)
  · symm; simp only [decide_eq_true_eq]; right; right; exact ⟨h, by simp, h1, h2, h3⟩
theorem letter_no (r : Int) (h : r < 65 ∨ (91 ≤ r ∧ r ≤ 96) ∨ (123 ≤ r ∧ r ≤ 191) ∨ r = 215 ∨ r = 247 ∨ (8192 ≤ r ∧ r ≤ 8303)) : letterB r = false := by
  unfold letterB; simp only [decide_eq_false_iff_not]; intro h'; rcases h' with h' | h' | ⟨h1, h2, h3, h4, h5⟩ <;> omega
theorem letter_yes (r : Int) (h : (65 ≤ r ∧ r ≤ 90) ∨ (97 ≤ r ∧ r ≤ 122)) : letterB r = true := by
  unfold letterB; simp only [decide_eq_true_eq]; omega

set_option maxRecDepth 100000 in
set_option maxHeartbeats 1000000 in
theorem letter_any (r : Int) (w : World) :
    Calls Tryd.prog 22 #[.int .i32 r] w fun e w' => e = .returned (.bool (letterB r)) ∧ w = w' := by
  have C := Lib.hid (Tryd.utf8_ValidRune r w)
  rcases letter_cases r with h | ⟨h1, h2⟩ | ⟨h1, h2⟩ | ⟨h1, h2⟩ | ⟨h1, h2⟩ | rfl | rfl | ⟨h1, h2⟩ | ⟨h1, h2⟩ | ⟨h1, h2⟩ | ⟨h1, h2⟩ | h
  all_goals go_enter Tryd.func22, Tryd.ntmps22
  all_goals go_wp2_with (go_at_call 36; refine C.out.mono ?_; rintro e w' ⟨rfl, rfl⟩)
  all_goals go_ret
  all_goals first
    | exact ⟨ret_bool (letter_no _ (by omega)).symm, rfl⟩
    | exact ⟨ret_bool (letter_yes _ (by omega)).symm, rfl⟩
    | exact ⟨ret_bool (letter_hi _ (by omega) (by omega) (by omega) (by omega)), rfl⟩

/-- Letters: some bytes, and nothing but letters. -/
def lettersB (l : List UInt8) : Bool := !l.isEmpty && (items l).all letterB

set_option maxRecDepth 100000 in
set_option maxHeartbeats 2000000 in
theorem letters_any (s : ByteArray) (w : World) (hs : s.size ≤ maxLen) (hT : Tabs w) (hlow : 0 < w.heap.size ∧ 1 < w.heap.size) :
    Calls Tryd.prog 23 #[.string s] w fun e w' => e = .returned (.bool (lettersB s.data.toList)) ∧ Below w.heap.size w w' := by
  refine (callsIn_wide (n := 6)).1 ?_
  refine callsIn_of_wp_marks Tryd.func23 rfl trivial ?_ rfl
  simp only [Tryd.ntmps23, List.size_toArray, List.length_cons, List.length_nil, Nat.reduceAdd, Nat.reduceSub, Array.replicate_succ, Array.replicate_zero, List.push_toArray, List.append_toArray, List.nil_append, List.cons_append]
  gi_wp2_with (refine ⟨trivial, ?_⟩; gi_at_call 35; refine (callsIn_wide.2 (runesOf_any _ _)).mono ?_; rintro e w' ⟨rfl, rfl⟩)
  have bR := Boxed.new w 4 (.bool false)
  have bS := Boxed.new (w.alloc (.cells #[.bool false] 4)) 9 (.string s)
  rw [World.size_alloc] at bS
  have hB0 : Below w.heap.size w ((w.alloc (.cells #[.bool false] 4)).alloc (.cells #[.string s] 9)) := ((Below.refl _ w).alloc (Nat.le_refl _) _).alloc (by simp) _
  refine wpIn_rangeFunc_ownG rfl (by decide) (gf := 49) (lb := #[.pointer (some ⟨w.heap.size + 1, 0, none⟩)]) rfl trivial (enters_of Tryd.func49 (by kernel_rfl) rfl)
    (iter_stops 5 (by decide) (w.heap.size + 1) w.heap.size s hs _ (by simp; omega) (by simp) (hT.below hB0) hlow bS.cell) Keep.trans (keepK_b (by simp; omega) (by simp)) (Below.refl _ _) (fun _ => rfl)
    (fun (pre : List Int) W => (((∀ x ∈ pre, letterB x = true) ∧ Boxed W w.heap.size 4 (.bool false)) ∧ Boxed W (w.heap.size + 1) 9 (.string s)) ∧ Below w.heap.size w W)
    (fun c (pre : List Int) W => ((c = .ret ∧ ∃ x ∈ pre, letterB x = false) ∧ Boxed W w.heap.size 4 (.bool false)) ∧ Below w.heap.size w W)
    (OwnFrom.and (OwnFrom.and (OwnFrom.and (ownFrom_pure _ (fun pre : List Int => ∀ x ∈ pre, letterB x = true)) (Own.from (boxed_own _ _ _) _)) (Own.from (boxed_own _ _ _) _)) (ownFrom_below (Nat.le_refl _) (by simp; omega)))
    (fun c => OwnFrom.and (OwnFrom.and (ownFrom_pure _ (fun pre : List Int => c = .ret ∧ ∃ x ∈ pre, letterB x = false)) (Own.from (boxed_own _ _ _) _)) (ownFrom_below (Nat.le_refl _) (by simp; omega)))
    ⟨⟨⟨by simp, bR.alloc _⟩, bS⟩, hB0⟩
    (fun x => { tmps := #[.string s, undef, .pointer (some ⟨w.heap.size, 0, none⟩), .int .i32 x, .string s, .func (.func 49) #[] #[.pointer (some ⟨w.heap.size + 1, 0, none⟩)], .int .i32 x, undef, undef, undef, undef, undef], defers := [] }) ?assign ?body ?done ?stop
  case assign =>
    intro l x W K hK
    gi_wp2
    exact hK
  case body =>
    rintro l pre x W ⟨⟨⟨hp, hR⟩, hS⟩, hB⟩ hlt
    have HP := Lib.hid hp; clear hp
    have hc := hR.cell
    have hf := hR.frozen
    have c := letter_any x W
    cases hx : letterB x
    · rw [hx] at c
      have HX := Lib.hid hx; clear hx
      have C := Lib.hid c; clear c
      gi_wp2_with (refine ⟨trivial, ?_⟩; gi_at_call 22; refine (CallsIn.inRound l (callsIn_wide.2 C.out)).mono ?_; rintro e w' ⟨rfl, rfl⟩)
      exact ⟨(KeepsOthers.setCell _ _ _).from _, ⟨⟨rfl, x, by simp, HX.out⟩, hR.set _⟩, hB.setCell (p := ⟨w.heap.size, 0, none⟩) (Nat.le_refl _) _⟩
    · rw [hx] at c
      have HX := Lib.hid hx; clear hx
      have C := Lib.hid c; clear c
      gi_wp2_with (refine ⟨trivial, ?_⟩; gi_at_call 22; refine (CallsIn.inRound l (callsIn_wide.2 C.out)).mono ?_; rintro e w' ⟨rfl, rfl⟩)
      exact ⟨KeepsFrom.refl _ _, Keep.refl _ _ _, ⟨⟨fun y hy => by rcases List.mem_append.1 hy with h | h; exact HP.out y h; simp at h; rw [h]; exact HX.out, hR⟩, hS⟩, hB⟩
  case done =>
    rintro D ys W hD rfl ⟨⟨⟨hp, hR⟩, hS⟩, hB⟩ hK
    have HP := Lib.hid hp; clear hp
    have hc := hR.cell
    have hf := hR.frozen
    gi_wp2
    have hK' := (KeepsOthers.setCell W ⟨w.heap.size, 0, none⟩ (.bool !s.toList.isEmpty)).same D _ hK rfl
    refine ⟨by simp, .inl ⟨_, _, rfl, run_takeDeferred hK', ?_⟩⟩
    have hc5 := cell_kept (World.cell?_setCell_same' W ⟨w.heap.size, 0, none⟩ (.bool !s.toList.isEmpty) (by rw [hc]; rfl)) (grownBy_putObj' _ D (.deferred none)) (fun r e => by cases e; exact ⟨_, hK', rfl⟩)
    have hyes : lettersB s.data.toList = !s.toList.isEmpty := by
      unfold lettersB; rw [Lib.toList_data, List.all_eq_true.2 HP.out, Bool.and_true]
    refine ⟨.bool !s.toList.isEmpty, ?_, by rw [hyes], (hB.setCell (p := ⟨w.heap.size, 0, none⟩) (Nat.le_refl _) _).trans (belowK_b (w := w) (Nat.le_refl _) _ D _ _ (by simp at hD; omega) hK' rfl rfl)⟩
    simp [results, Tryd.f23, go_sem, hc5]
  case stop =>
    rintro D c pre W hD hpre ⟨⟨⟨rfl, x, hx, hlx⟩, hR⟩, hB⟩ hK
    gi_wp2
    refine ⟨by simp, .inl ⟨_, _, rfl, run_takeDeferred hK, ?_⟩⟩
    have hc5 := cell_kept hR.cell (grownBy_putObj' _ D (.deferred none)) (fun r e => by cases e; exact ⟨_, hK, rfl⟩)
    have hno : lettersB s.data.toList = false := by
      unfold lettersB; rw [Bool.and_eq_false_iff]; right
      rw [List.all_eq_false]; exact ⟨x, hpre.subset hx, by simp [hlx]⟩
    refine ⟨.bool false, ?_, by rw [hno], hB.trans (belowK_b (w := w) (Nat.le_refl _) W D _ _ (by simp at hD; omega) hK rfl rfl)⟩
    simp [results, Tryd.f23, go_sem, hc5]

def decErr (l : List UInt8) : Int := if Lib.validD l then 0 else 3
def decRunes (l : List UInt8) : List Int := if Lib.validD l then items l else []
/-- Decode, its answer read as a list. -/
theorem decode_runs (s : ByteArray) (w : World) (hs : s.size * 4 ≤ 140737488355328) (hT : Tabs w) (hlow : 0 < w.heap.size ∧ 1 < w.heap.size) :
    Calls Tryd.prog 21 #[.string s] w fun e w' => ∃ A c, e = .returned (.tuple #[.slice A (decRunes s.data.toList).length c, .int .i64 (decErr s.data.toList)]) ∧ Runs w' (.slice A (decRunes s.data.toList).length c) (decRunes s.data.toList) ∧ Below w.heap.size w w' := by
  refine (decode_any s w hs hT hlow).mono ?_
  rintro e w' ⟨v, rfl, hrow, hb⟩
  have hr : Runs w' v (decRunes s.data.toList) := Runs.of_own hrow
  have hr' := hr
  obtain ⟨A, c, rfl, _⟩ := hr'
  exact ⟨A, c, rfl, hr, hb⟩

def tokErr (l : List UInt8) : Int := if Lib.validD l then (if (items l).length = 0 then 4 else if 64 < (items l).length then 5 else 0) else 3
def tokRunes (l : List UInt8) : List Int := if tokErr l = 0 then items l else []

end Go.Proofs.YtephhejfkihhgaaDoor
