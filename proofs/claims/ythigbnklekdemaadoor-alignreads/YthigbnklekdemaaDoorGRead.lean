/- align.Read, Check: what steps are of, whether they may be. -/
import Derived.Test.YthigbnklekdemaaDoorALaw2
import Derived.Test.YthigbnklekdemaaDoorEncode
namespace Go.Proofs.YthigbnklekdemaaDoor
open Go.RowKit Go.Shelf

/-- A step has what its kind asks for. -/
def stForm (s : St) : Bool := decide (s.1 = 0 ∧ s.2.1 = s.2.2) || decide (s.1 = 1 ∧ s.2.1 ≠ s.2.2) || decide (s.1 = 2 ∧ s.2.2 = 0) || decide (s.1 = 3 ∧ s.2.1 = 0)

set_option maxRecDepth 100000 in
set_option maxHeartbeats 4000000 in
theorem formed_any (k a b : Int) (w : World) :
    Calls Tryd.prog 28 #[.agg #[.int .i64 k, .int .i32 a, .int .i32 b]] w fun e w' => e = .returned (.bool (stForm (k, a, b))) ∧ w' = w.alloc (.cells #[.int .i64 k, .int .i32 a, .int .i32 b] 42) := by
  obtain ⟨res, hres⟩ : ∃ r, stForm (k, a, b) = r := ⟨_, rfl⟩
  rw [hres]
  unfold stForm at hres
  simp only at hres
  have HR := Lib.hid hres; clear hres
  by_cases k0 : k = 0
  · subst k0
    have hr : res = (a == b) := by rw [← HR.out]; simp; rfl
    have H2 := Lib.hid hr; clear hr
    go_enter Tryd.func28, Tryd.ntmps28
    go_wp2
    go_ret
    exact ⟨ret_bool H2.out.symm, rfl⟩
  by_cases k1 : k = 1
  · subst k1
    have hr : res = (a != b) := by rw [← HR.out]; simp [bne]; rfl
    have H2 := Lib.hid hr; clear hr
    go_enter Tryd.func28, Tryd.ntmps28
    go_wp2
    go_ret
    exact ⟨ret_bool H2.out.symm, rfl⟩
  by_cases k2 : k = 2
  · subst k2
    have hr : res = (b == 0) := by rw [← HR.out]; simp; rfl
    have H2 := Lib.hid hr; clear hr
    go_enter Tryd.func28, Tryd.ntmps28
    go_wp2
    go_ret
    exact ⟨ret_bool H2.out.symm, rfl⟩
  by_cases k3 : k = 3
  · subst k3
    have hr : res = (a == 0) := by rw [← HR.out]; simp; rfl
    have H2 := Lib.hid hr; clear hr
    go_enter Tryd.func28, Tryd.ntmps28
    go_wp2
    go_ret
    exact ⟨ret_bool H2.out.symm, rfl⟩
  have hr : res = false := by rw [← HR.out]; simp [k0, k1, k2, k3]
  subst hr
  have b0 : (k == 0) = false := beq_eq_false_iff_ne.2 k0
  have b1 : (k == 1) = false := beq_eq_false_iff_ne.2 k1
  have b2 : (k == 2) = false := beq_eq_false_iff_ne.2 k2
  have b3 : (k == 3) = false := beq_eq_false_iff_ne.2 k3
  go_enter Tryd.func28, Tryd.ntmps28
  go_wp2
  go_ret
  exact ⟨rfl, rfl⟩

theorem good_all (l : List St) (h : l.all stForm = true) : l.all stGood = (allRunes (stA l) && allRunes (stB l)) := by
  induction l with
  | nil => rfl
  | cons s l ih =>
    rw [List.all_cons, Bool.and_eq_true] at h
    obtain ⟨k, a, b⟩ := s
    rw [List.all_cons, ih h.2]
    have hs := h.1
    unfold stForm at hs
    simp only [Bool.or_eq_true, decide_eq_true_eq] at hs
    have v0 : Lib.validRune 0 = true := by decide
    rcases hs with ((⟨rfl, rfl⟩ | ⟨rfl, h2⟩) | ⟨rfl, rfl⟩) | ⟨rfl, rfl⟩
    · simp only [stGood, stA, stB, allRunes]
      simp
      cases Lib.validRune a <;> simp
    · simp only [stGood, stA, stB, allRunes]
      simp [h2]
      cases Lib.validRune a <;> cases Lib.validRune b <;> simp
    · simp only [stGood, stA, stB, allRunes]
      simp [v0]
      cases Lib.validRune a <;> simp
    · simp only [stGood, stA, stB, allRunes]
      simp [v0]
      cases Lib.validRune b <;> simp
theorem good_formed (s : St) (h : stForm s = false) : stGood s = false := by
  unfold stForm at h
  unfold stGood
  rw [h, Bool.and_false]
theorem form_no (l : List St) (k : Nat) (h : k < l.length) (hf : stForm (l.getD k (0, 0, 0)) = false) : l.all stGood = false := by
  rw [List.all_eq_false]
  refine ⟨l[k], List.getElem_mem h, ?_⟩
  rw [List.getD_eq_getElem?_getD, List.getElem?_eq_getElem h] at hf
  have hf' : stForm l[k] = false := hf
  simp [good_formed _ hf']
theorem form_take (l : List St) (k : Nat) (h : k < l.length) : (l.take (k + 1)).all stForm = ((l.take k).all stForm && stForm (l.getD k (0, 0, 0))) := by
  rw [List.take_add_one, List.all_append]
  simp [List.getElem?_eq_getElem h, List.getD_eq_getElem?_getD]
/-- Numbers that fit. -/
def stFit (l : List St) : Prop := ∀ s ∈ l, (-2147483648 ≤ s.2.1 ∧ s.2.1 ≤ 2147483647) ∧ (-2147483648 ≤ s.2.2 ∧ s.2.2 ≤ 2147483647)
theorem fit_A (l : List St) (h : stFit l) : ∀ x ∈ stA l, -2147483648 ≤ x ∧ x ≤ 2147483647 := by
  induction l with
  | nil => intro x hx; simp [stA] at hx
  | cons s l ih =>
    have i := ih fun t ht => h t (by simp [ht])
    intro x hx
    simp only [stA] at hx
    split at hx
    · exact i x hx
    · rcases List.mem_cons.1 hx with rfl | hx
      · exact (h s (by simp)).1
      · exact i x hx
theorem fit_B (l : List St) (h : stFit l) : ∀ x ∈ stB l, -2147483648 ≤ x ∧ x ≤ 2147483647 := by
  induction l with
  | nil => intro x hx; simp [stB] at hx
  | cons s l ih =>
    have i := ih fun t ht => h t (by simp [ht])
    intro x hx
    simp only [stB] at hx
    split at hx
    · exact i x hx
    · rcases List.mem_cons.1 hx with rfl | hx
      · exact (h s (by simp)).2
      · exact i x hx
end Go.Proofs.YthigbnklekdemaaDoor
