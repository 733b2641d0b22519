/- align.Steps at any two texts; the examples of layer 4. -/
import Derived.Test.YthigbnklekdemaaDoorGSteps
import Derived.Test.YthigbnklekdemaaDoorGRead2
import Derived.Test.YthigbnklekdemaaDoorGCost
namespace Go.Proofs.YthigbnklekdemaaDoor
open Go.RowKit Go.Shelf

theorem tokErr2_parts {s t : List UInt8} (h2 : tokErr2 s t = 0) : tokErr s = 0 ∧ tokErr t = 0 := by
  unfold tokErr2 at h2
  by_cases h1 : tokErr s = 0
  · rw [if_pos h1] at h2; exact ⟨h1, h2⟩
  · rw [if_neg h1] at h2; exact absurd h2 h1
theorem tokErr2_of {s t : List UInt8} (h1 : tokErr s = 0) (h2 : tokErr t = 0) : tokErr2 s t = 0 := by rw [tokErr2, if_pos h1, h2]

set_option maxRecDepth 100000 in
set_option maxHeartbeats 4000000 in
theorem steps_any (s t : ByteArray) (hs : s.size * 4 ≤ 140737488355328) (ht : t.size * 4 ≤ 140737488355328) : StepsAt s t := by
  intro w h
  by_cases h2 : tokErr2 s.data.toList t.data.toList = 0
  · obtain ⟨h1, h3⟩ := tokErr2_parts h2
    rw [h2, stepsS, if_pos h2]
    exact steps_ok s t w h hs ht h1 h3
  · have c := lay_bad s t w h hs ht h2
    have e3 : stepsS s.data.toList t.data.toList = [] := by rw [stepsS, if_neg h2]
    rw [e3]
    clear e3
    obtain ⟨er, he⟩ : ∃ er, tokErr2 s.data.toList t.data.toList = er := ⟨_, rfl⟩
    rw [he] at h2 c ⊢
    clear he
    have C := Lib.hid c; clear c
    go_enter Tryd.func10, Tryd.ntmps10
    go_wp2_with fail
    refine C.out.mono ?_
    rintro e w1 ⟨rfl, B1⟩
    go_wp2
    go_ret2
    exact ⟨_, rfl, StRuns.nil_ _, B1.out.alloc B1.out.size _⟩

theorem ex_steps : stepsS [114, 110] [109] = [(2, 114, 0), (1, 110, 109)] ∧ tokErr2 [114, 110] [109] = 0 := by
  have e1 : tokErr [114, 110] = 0 := by decide +kernel
  have e2 : tokErr [109] = 0 := by decide +kernel
  have e3 : tokErr2 [114, 110] [109] = 0 := tokErr2_of e1 e2
  have r1 : tokRunes [114, 110] = [114, 110] := by decide +kernel
  have r2 : tokRunes [109] = [109] := by decide +kernel
  refine ⟨?_, e3⟩
  rw [stepsS, if_pos e3, r1, r2]
  have l1 : levR [110, 114] [109] = 2 := by simp [levR_cons, levR_nil, levR_nil']
  have l2 : levR [114] [] = 1 := by simp [levR_nil']
  show (pathR [110, 114] [109]).reverse = _
  rw [pathR_sub (by decide) (by rw [l1, l2]), pathR, pathR]
  rfl
theorem ex_dist : distS [97, 98] [98] = 1 ∧ tokErr2 [97, 98] [98] = 0 := by
  have e1 : tokErr [97, 98] = 0 := by decide +kernel
  have e2 : tokErr [98] = 0 := by decide +kernel
  have e3 : tokErr2 [97, 98] [98] = 0 := tokErr2_of e1 e2
  have r1 : tokRunes [97, 98] = [97, 98] := by decide +kernel
  have r2 : tokRunes [98] = [98] := by decide +kernel
  refine ⟨?_, e3⟩
  rw [distS, if_pos e3, r1, r2]
  show levR [98, 97] [98] = 1
  rw [levR_same, levR_nil']
  rfl

set_option maxRecDepth 100000 in
set_option maxHeartbeats 4000000 in
theorem alive4_any : Alive4 := by
  intro w h
  have c1 := steps_any ⟨#[114, 110]⟩ ⟨#[109]⟩ (by decide) (by decide)
  have c2 := distance_any ⟨#[97, 98]⟩ ⟨#[98]⟩ (by decide) (by decide)
  unfold StepsAt at c1
  unfold DistAt at c2
  simp only [ex_steps.1, ex_steps.2] at c1
  simp only [ex_dist.1, ex_dist.2] at c2
  have C1 := Lib.hid c1; clear c1
  have C2 := Lib.hid c2; clear c2
  go_enter Tryd.func9, Tryd.ntmps9
  go_wp2_with fail
  refine (C1.out _ h).mono ?_
  rintro e w1 ⟨v, rfl, r1, b1⟩
  have h1 := Lib.hid (h.below b1)
  have R1 := Lib.hid r1; clear r1
  have B1 := Lib.hid b1; clear b1
  go_wp2_with fail
  refine (C2.out _ h1.out).mono ?_
  rintro e w2 ⟨rfl, b2⟩
  obtain ⟨A, c, rfl, hxc, ⟨hxm, _⟩, hxx⟩ := R1.out.below b2
  obtain ⟨b, o, rfl, hb, hc⟩ := hxx (by simp)
  obtain ⟨f0, f1, f2⟩ := hc 0 (by simp)
  obtain ⟨f3, f4, f5⟩ := hc 1 (by simp)
  simp at f0 f1 f2 f3 f4 f5
  have B2 := Lib.hid (B1.out.trans (b2.mono B1.out.size))
  clear hc hxx b2 R1 B1 C1 C2 h1
  simp only [List.length_cons, List.length_nil, Nat.zero_add, Nat.reduceAdd] at hxc ⊢
  go_wp2
  go_ret
  exact ⟨rfl, B2.out⟩
end Go.Proofs.YthigbnklekdemaaDoor
