/- The law AlignSteps, walked over what align's functions answer. -/
import Derived.Test.YthigbnklekdemaaDoorASteps2
import Derived.Test.YthigbnklekdemaaDoorASame
namespace Go.Proofs.YthigbnklekdemaaDoor
open Go.RowKit Go.Shelf

/-- What align.Steps and align.Distance answer at two texts, in every world. -/
def StepsAt (s t : ByteArray) : Prop := ∀ w, Okw w → Calls Tryd.prog 10 #[.string s, .string t] w fun e w' => ∃ v, e = .returned (.tuple #[v, .int .i64 (tokErr2 s.data.toList t.data.toList)]) ∧ StRuns w' v (stepsS s.data.toList t.data.toList) ∧ Below w.heap.size w w'
def DistAt (s t : ByteArray) : Prop := ∀ w, Okw w → Calls Tryd.prog 12 #[.string s, .string t] w fun e w' => e = .returned (.tuple #[.int .i64 (distS s.data.toList t.data.toList), .int .i64 (tokErr2 s.data.toList t.data.toList)]) ∧ Below w.heap.size w w'
def Alive4 : Prop := ∀ w, Okw w → Calls Tryd.prog 9 #[] w fun e w' => e = .returned (.bool true) ∧ Below w.heap.size w w'

set_option maxRecDepth 100000 in
set_option maxHeartbeats 4000000 in
theorem alignSteps_walk (s t : ByteArray) (w : World) (h : Okw w) (ha : Alive4) (hS : s.size ≤ 2000 → t.size ≤ 2000 → StepsAt s t) (hD : s.size ≤ 2000 → t.size ≤ 2000 → DistAt s t) (hs : s.size ≤ maxLen) (ht : t.size ≤ maxLen) :
    Calls Tryd.prog 3 #[.string s, .string t] w (RetTrue w) := by
  unfold maxLen at hs ht
  by_cases h1 : 2000 < s.size
  · have h1' : (2000 : Int) < (s.size : Int) := by omega
    go_enter Tryd.func3, Tryd.ntmps3
    go_wp2_with fail
    refine (ha _ h).mono ?_
    rintro e w1 ⟨rfl, b1⟩
    have B1 := Lib.hid b1; clear b1
    go_wp2
    go_ret
    exact ⟨rfl, B1.out⟩
  by_cases h2 : 2000 < t.size
  · have h1' : ¬ (2000 : Int) < (s.size : Int) := by omega
    have h2' : (2000 : Int) < (t.size : Int) := by omega
    go_enter Tryd.func3, Tryd.ntmps3
    go_wp2_with fail
    refine (ha _ h).mono ?_
    rintro e w1 ⟨rfl, b1⟩
    have B1 := Lib.hid b1; clear b1
    go_wp2
    go_ret
    exact ⟨rfl, B1.out⟩
  have h1' : ¬ (2000 : Int) < (s.size : Int) := by omega
  have h2' : ¬ (2000 : Int) < (t.size : Int) := by omega
  have c1 := hS (by omega) (by omega)
  have c3 := hD (by omega) (by omega)
  have c2 := fun w => refSteps_any s t w (by omega) (by omega)
  have c4 := fun w => refDistance_any s t w (by omega) (by omega)
  unfold StepsAt at c1
  unfold DistAt at c3
  obtain ⟨er, he⟩ : ∃ er, tokErr2 s.data.toList t.data.toList = er := ⟨_, rfl⟩
  obtain ⟨l, hl⟩ : ∃ l, stepsS s.data.toList t.data.toList = l := ⟨_, rfl⟩
  obtain ⟨D, hd⟩ : ∃ D, distS s.data.toList t.data.toList = D := ⟨_, rfl⟩
  simp only [he, hl, hd] at c1 c2 c3 c4
  clear he hl hd
  go_enter Tryd.func3, Tryd.ntmps3
  go_wp2_with fail
  refine (ha _ h).mono ?_
  rintro e w1 ⟨rfl, b1⟩
  have K1 : Hid (Okw w1) := Lib.hid (h.below b1)
  have B1 := Lib.hid b1; clear b1
  go_wp2_with fail
  refine (c1 _ K1.out).mono ?_
  rintro e w2 ⟨va, rfl, r2, b2⟩
  have R2 := Lib.hid r2; clear r2
  have K2 : Hid (Okw w2) := Lib.hid (K1.out.below b2)
  have B2 := Lib.hid (B1.out.trans (b2.mono B1.out.size)); clear b2
  go_wp2_with fail
  refine (c2 _).mono ?_
  rintro e w3 ⟨vb, rfl, r3, b3⟩
  have R2' := Lib.hid (R2.out.below b3)
  have R3 := Lib.hid r3; clear r3 R2
  have K3 : Hid (Okw w3) := Lib.hid (K2.out.below b3)
  have B3 := Lib.hid (B2.out.trans (b3.mono B2.out.size)); clear b3
  go_wp2_with fail
  refine (c3 _ K3.out).mono ?_
  rintro e w4 ⟨rfl, b4⟩
  have R2'' := Lib.hid (R2'.out.below b4)
  have R3' := Lib.hid (R3.out.below b4)
  have B4 := Lib.hid (B3.out.trans (b4.mono B3.out.size)); clear b4 R2' R3
  go_wp2_with fail
  refine (c4 _).mono ?_
  rintro e w5 ⟨rfl, b5⟩
  have R2a := R2''.out.below b5
  have R3a := R3'.out.below b5
  have B5 := Lib.hid (B4.out.trans (b5.mono B4.out.size)); clear b5
  have c5 := refSame_any va vb l l w5 R2a R3a
  rw [decide_eq_true rfl] at c5
  clear c1 c2 c3 c4 R2a R3a R2'' R3'
  go_wp2_with fail
  refine c5.mono ?_
  rintro e w6 ⟨rfl, q, rfl⟩
  go_wp2
  go_ret
  exact ⟨rfl, below_draws B5.out _⟩
end Go.Proofs.YthigbnklekdemaaDoor
