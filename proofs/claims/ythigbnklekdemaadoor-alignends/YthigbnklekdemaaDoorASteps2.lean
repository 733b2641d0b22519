/- The steps of two tokens, or the error, as errataref04.Steps tells them. -/
import Derived.Test.YthigbnklekdemaaDoorASteps
namespace Go.Proofs.YthigbnklekdemaaDoor
open Go.RowKit Go.Shelf

/-- The steps of two tokens, in order, or none. -/
def stepsS (s t : List UInt8) : List St := if tokErr2 s t = 0 then (pathR (tokRunes s).reverse (tokRunes t).reverse).reverse else []

set_option maxRecDepth 100000 in
set_option maxHeartbeats 4000000 in
theorem refSteps_any (s t : ByteArray) (w : World) (hs : s.size * 4 ≤ 140737488355328) (ht : t.size * 4 ≤ 140737488355328) :
    Calls Tryd.prog 11 #[.string s, .string t] w fun e w' => ∃ v, e = .returned (.tuple #[v, .int .i64 (tokErr2 s.data.toList t.data.toList)]) ∧ StRuns w' v (stepsS s.data.toList t.data.toList) ∧ Below w.heap.size w w' := by
  by_cases h1 : tokErr s.data.toList = 0
  · have e2 : tokErr2 s.data.toList t.data.toList = tokErr t.data.toList := if_pos h1
    by_cases h2 : tokErr t.data.toList = 0
    · have e3 : stepsS s.data.toList t.data.toList = (pathR (tokRunes s.data.toList).reverse (tokRunes t.data.toList).reverse).reverse := by rw [stepsS, if_pos (by rw [e2, h2])]
      rw [e2, h2, e3]
      exact refSteps_ok s t w hs ht h1 h2
    · have c := refTokens_ok s t w hs ht h1
      have e3 : stepsS s.data.toList t.data.toList = [] := by rw [stepsS, if_neg (by rw [e2]; exact h2)]
      rw [e2, e3]
      clear e2 e3 h1
      obtain ⟨er, he⟩ : ∃ er, tokErr t.data.toList = er := ⟨_, rfl⟩
      rw [he] at h2 ⊢
      simp only [he] at c
      clear he
      go_enter Tryd.func11, Tryd.ntmps11
      go_wp2_with fail
      refine c.mono ?_
      rintro e w1 ⟨A, cc, B, d, rfl, R1, R2, B1⟩
      clear c R1 R2
      go_wp2
      go_ret2
      exact ⟨_, rfl, StRuns.nil_ _, B1.out⟩
  · have c := refTokens_bad s t w hs h1
    have e2 : tokErr2 s.data.toList t.data.toList = tokErr s.data.toList := if_neg h1
    have e3 : stepsS s.data.toList t.data.toList = [] := by rw [stepsS, if_neg (by rw [e2]; exact h1)]
    rw [e2, e3]
    clear e2 e3
    obtain ⟨er, he⟩ : ∃ er, tokErr s.data.toList = er := ⟨_, rfl⟩
    rw [he] at h1 ⊢
    simp only [he] at c
    clear he
    go_enter Tryd.func11, Tryd.ntmps11
    go_wp2_with fail
    refine c.mono ?_
    rintro e w1 ⟨rfl, b1⟩
    have B1 := Lib.hid b1
    clear c b1
    go_wp2
    go_ret2
    exact ⟨_, rfl, StRuns.nil_ _, B1.out⟩
end Go.Proofs.YthigbnklekdemaaDoor
