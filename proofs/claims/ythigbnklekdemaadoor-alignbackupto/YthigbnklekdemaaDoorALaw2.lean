/- The law AlignReads, walked over what align's functions answer. -/
import Derived.Test.YthigbnklekdemaaDoorALaw1
import Derived.Test.YthigbnklekdemaaDoorARead
namespace Go.Proofs.YthigbnklekdemaaDoor
open Go.RowKit Go.Shelf

def stErr (l : List St) : Int := if l.all stGood then 0 else 7
def readA (l : List St) : List UInt8 := if l.all stGood then encS (stA l) else []
def readB (l : List St) : List UInt8 := if l.all stGood then encS (stB l) else []
/-- What align.Read, Check and Cost answer at steps, in every world. -/
def ReadAt (l : List St) : Prop := ∀ w u, Okw w → StRuns w u l → Calls Tryd.prog 15 #[u] w fun e w' => e = .returned (.tuple #[.string ⟨(readA l).toArray⟩, .string ⟨(readB l).toArray⟩, .int .i64 (stErr l)]) ∧ Below w.heap.size w w'
def CheckAt (l : List St) : Prop := ∀ w u, Okw w → StRuns w u l → Calls Tryd.prog 17 #[u] w fun e w' => e = .returned (.int .i64 (stErr l)) ∧ Below w.heap.size w w'
def CostAt (l : List St) : Prop := ∀ w u, Okw w → StRuns w u l → Calls Tryd.prog 19 #[u] w fun e w' => e = .returned (.int .i64 (stC l)) ∧ Below w.heap.size w w'

theorem refRead_any (u : Value) (l : List St) (w : World) (hu : StRuns w u l) (hl : l.length ≤ 1000000) :
    Calls Tryd.prog 16 #[u] w fun e w' => e = .returned (.tuple #[.string ⟨(readA l).toArray⟩, .string ⟨(readB l).toArray⟩, .int .i64 (stErr l)]) ∧ Below w.heap.size w w' := by
  cases hg : l.all stGood with
  | true =>
    unfold readA readB stErr
    rw [hg]
    exact refRead_ok u l w hu hl hg
  | false =>
    unfold readA readB stErr
    rw [hg]
    exact refRead_bad u l w hu hg

set_option maxRecDepth 100000 in
set_option maxHeartbeats 4000000 in
theorem alignReads_walk (u : Value) (l : List St) (w : World) (h : Okw w) (ha : Alive4) (hu : StRuns w u l) (hR : l.length ≤ 2000 → ReadAt l) (hC : l.length ≤ 2000 → CheckAt l) (hK : l.length ≤ 2000 → CostAt l) :
    Calls Tryd.prog 4 #[u] w (RetTrue w) := by
  obtain ⟨A, c, rfl, hxc, ⟨hxm, hA⟩, hxx⟩ := hu
  have hu : StRuns w (.slice A l.length c) l := ⟨A, c, rfl, hxc, ⟨hxm, hA⟩, hxx⟩
  clear hxx hA
  unfold maxLen at hxm
  have r2 := fun (w : World) (u : Value) (hu : StRuns w u l) (hl : l.length ≤ 1000000) => refRead_any u l w hu hl
  have r3 : ∀ (w : World) (u : Value), StRuns w u l → Calls Tryd.prog 18 #[u] w fun e w' => e = .returned (.int .i64 (stErr l)) ∧ Below w.heap.size w w' := fun w u hu => refCheck_any u l w hu
  have r4 := fun (w : World) (u : Value) (hu : StRuns w u l) => refCost_any u l w hu
  unfold ReadAt at hR
  unfold CheckAt at hC
  unfold CostAt at hK
  obtain ⟨n, hn⟩ : ∃ n, l.length = n := ⟨_, rfl⟩
  obtain ⟨xa, hxa⟩ : ∃ x, readA l = x := ⟨_, rfl⟩
  obtain ⟨xb, hxb⟩ : ∃ x, readB l = x := ⟨_, rfl⟩
  obtain ⟨er, he⟩ : ∃ x, stErr l = x := ⟨_, rfl⟩
  obtain ⟨k, hk⟩ : ∃ x, stC l = x := ⟨_, rfl⟩
  simp only [hn, hxa, hxb, he, hk] at hR hC hK r2 r3 r4 hu hxc ⊢
  clear hn hxa hxb he hk
  have HU := Lib.hid hu; clear hu
  by_cases h1 : 2000 < n
  · have h1' : (2000 : Int) < (n : Int) := by omega
    clear hR hC hK r2 r3 r4
    go_enter Tryd.func4, Tryd.ntmps4
    go_wp2_with fail
    refine (ha _ h).mono ?_
    rintro e w1 ⟨rfl, b1⟩
    have B1 := Lib.hid b1; clear b1
    go_wp2
    go_ret
    exact ⟨rfl, B1.out⟩
  have h1' : ¬ (2000 : Int) < (n : Int) := by omega
  have c1 := Lib.hid (hR (by omega)); clear hR
  have c2 := Lib.hid (hC (by omega)); clear hC
  have c3 := Lib.hid (hK (by omega)); clear hK
  have C2 := Lib.hid r2; clear r2
  have C3 := Lib.hid r3; clear r3
  have C4 := Lib.hid r4; clear r4
  go_enter Tryd.func4, Tryd.ntmps4
  go_wp2_with fail
  refine (ha _ h).mono ?_
  rintro e w1 ⟨rfl, b1⟩
  have K1 : Hid (Okw w1) := Lib.hid (h.below b1)
  have U1 := Lib.hid (HU.out.below b1)
  have B1 := Lib.hid b1; clear b1
  go_wp2_with fail
  refine (c1.out _ _ K1.out U1.out).mono ?_
  rintro e w2 ⟨rfl, b2⟩
  have K2 : Hid (Okw w2) := Lib.hid (K1.out.below b2)
  have U2 := Lib.hid (U1.out.below b2)
  have B2 := Lib.hid (B1.out.trans (b2.mono B1.out.size)); clear b2
  go_wp2_with fail
  refine (C2.out _ _ U2.out (by omega)).mono ?_
  rintro e w3 ⟨rfl, b3⟩
  have K3 : Hid (Okw w3) := Lib.hid (K2.out.below b3)
  have U3 := Lib.hid (U2.out.below b3)
  have B3 := Lib.hid (B2.out.trans (b3.mono B2.out.size)); clear b3
  go_wp2_with fail
  refine (c2.out _ _ K3.out U3.out).mono ?_
  rintro e w4 ⟨rfl, b4⟩
  have K4 : Hid (Okw w4) := Lib.hid (K3.out.below b4)
  have U4 := Lib.hid (U3.out.below b4)
  have B4 := Lib.hid (B3.out.trans (b4.mono B3.out.size)); clear b4
  go_wp2_with fail
  refine (C3.out _ _ U4.out).mono ?_
  rintro e w5 ⟨rfl, b5⟩
  have K5 : Hid (Okw w5) := Lib.hid (K4.out.below b5)
  have U5 := Lib.hid (U4.out.below b5)
  have B5 := Lib.hid (B4.out.trans (b5.mono B4.out.size)); clear b5
  go_wp2_with fail
  refine (c3.out _ _ K5.out U5.out).mono ?_
  rintro e w6 ⟨rfl, b6⟩
  have U6 := Lib.hid (U5.out.below b6)
  have B6 := Lib.hid (B5.out.trans (b6.mono B5.out.size)); clear b6
  go_wp2_with fail
  refine (C4.out _ _ U6.out).mono ?_
  rintro e w7 ⟨rfl, b7⟩
  have B7 := Lib.hid (B6.out.trans (b7.mono B6.out.size)); clear b7
  go_wp2
  go_ret
  exact ⟨rfl, B7.out⟩
end Go.Proofs.YthigbnklekdemaaDoor
