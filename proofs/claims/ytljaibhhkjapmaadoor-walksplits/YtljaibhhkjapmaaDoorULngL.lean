/- WalkLongest, walked over what walk's functions answer. -/
import Derived.Test.YtljaibhhkjapmaaDoorULawP
import Derived.Test.YtljaibhhkjapmaaDoorPk18
namespace Go.Proofs.YtljaibhhkjapmaaDoor
open Go.RowKit Go.Shelf
attribute [local go_sem] Oper.semAt_some
set_option linter.unusedSimpArgs false
set_option linter.unusedVariables false

set_option maxRecDepth 100000 in
set_option maxHeartbeats 64000000 in
theorem walkLongest_walk (u : Value) (l : List Wrd) (s : ByteArray) (w : World) (h : Okw w) (hu : WRuns w u l) (hz : szMW l) (hs : s.size ≤ 140737488355328) :
    Calls Tryd.prog 8 #[u, .string s] w (RetTrue w) := by
  have m1 := fun w hO hu => made_any u l s w hO hu hz (by omega)
  obtain ⟨X, hX⟩ : ∃ z, worS l = z := ⟨_, rfl⟩
  have HU := Lib.hid hu; have M1 := Lib.hid m1
  clear hu m1 hz
  go_enter Tryd.func8, Tryd.ntmps8
  go_wp2_with fail
  refine (alive11_any _ h).mono ?_
  rintro e w1 ⟨rfl, b1⟩
  have U1 := Lib.hid (HU.out.below b1); have K1 : Hid (Okw w1) := Lib.hid (h.below b1)
  have B1 := Lib.hid b1; clear b1
  go_wp2_with fail
  refine (M1.out _ K1.out U1.out).mono ?_
  rintro e w2 ⟨b2, hp⟩
  have K2 : Hid (Okw w2) := Lib.hid (K1.out.below b2); have B2 := Lib.hid (B1.out.trans (b2.mono B1.out.size))
  clear b2 M1
  rcases hp with rfl | ⟨d, v, rfl, hq, hd, hv⟩
  · go_wp2
    go_ret
    exact ⟨rfl, B2.out⟩
  rw [hX] at hq hd hv
  obtain ⟨hn, hx60, hs8, hzx⟩ := hq
  obtain ⟨Av, cv, ev⟩ := hv.slice
  obtain ⟨nx, hnx⟩ : ∃ z, X.length = z := ⟨_, rfl⟩
  rw [hnx] at ev
  subst ev
  have HV := Lib.hid hv; have HNX := Lib.hid hnx
  have cl := fun w' (hb : Below w2.heap.size w2 w') => ulongest_any w' d X hn _ rfl (hd.below hb) s (K2.out.below hb) (by omega)
  have cs := fun (x : Wrd) (hx : x ∈ X) w' (hb : Below w2.heap.size w2 w') => by
    have h1 := ulongest_any w' d X hn _ rfl (hd.below hb) x.1 (K2.out.below hb) (by have := hzx x hx; omega)
    obtain ⟨h2, h3⟩ := lng_self hn hx
    rw [h2, h3] at h1
    exact h1
  have cf := fun k w' (hb : Below w2.heap.size w2 w') => xfind_any (.slice Av nx cv) X k w' (K2.out.below hb) (hv.below hb) (by omega) hzx
  have hlf := lng_facts hn s
  have cp := fun (x : ByteArray) W => Tryd.strings_HasPrefix s x W
  have epk : ∀ x : ByteArray, Lib.hasPrefix s.data.toList x.data.toList = preK x s := fun x => rfl
  simp only [epk] at cp
  obtain ⟨er, her⟩ : ∃ z, uE s.data.toList = z := ⟨_, rfl⟩
  obtain ⟨oE, hoE⟩ : ∃ z, ulE (rnW X) s.data.toList = z := ⟨_, rfl⟩
  obtain ⟨oS, hoS⟩ : ∃ z, ulS (rnW X) s.data.toList = z := ⟨_, rfl⟩
  simp only [her, hoE, hoS] at cl hlf
  have CL := Lib.hid cl; have CS := Lib.hid cs; have CF := Lib.hid cf; have CP := Lib.hid cp
  have hnx6 : nx ≤ 60 := by omega
  clear cl cs cf cp epk her hoE hoS hd hv hnx hX hs8 hx60 hs hzx
  have main : ∀ w3, Below w2.heap.size w2 w3 → (∀ x ∈ X, preK x.1 s = true → x.1.size ≤ oS.size) → True := fun _ _ _ => trivial
  clear main
  rcases hlf with ⟨h1, h2, rfl, rfl⟩ | ⟨rfl, rfl, h3⟩ | ⟨rfl, h4, h5, h3⟩
  · have e1 : (oE == 0) = false := by simpa using h1
    have e2 : (oE != 0) = true := by simpa using h1
    have e3 : (oE != 10) = true := by simpa using h2
    clear h1 h2
    go_wp2_with fail
    refine (CL.out _ (Below.refl _ _)).mono ?_
    rintro e w3 ⟨rfl, b3⟩
    have B3 := Lib.hid (B2.out.trans (b3.mono B2.out.size))
    clear b3
    go_wp2
    go_ret
    exact ⟨rfl, B3.out⟩
  all_goals have H3 := Lib.hid h3
  all_goals clear h3
  · go_wp2_with fail
    refine (CL.out _ (Below.refl _ _)).mono ?_
    rintro e w3 ⟨rfl, b3⟩
    have B3 := Lib.hid b3
    clear b3
    go_wp2
    go_loopw [58] (fun s58 wr => ∃ k : Nat, k ≤ nx ∧ s58 = .int .i64 k ∧ Hid (Below w2.heap.size w2 wr)) (fun s58 _ => nx - (RowKit.intOf s58).toNat)
    case atStart => exact ⟨0, Nat.zero_le _, rfl, B3⟩
    case round =>
      obtain ⟨k, hkn, rfl, HB⟩ := hrel
      by_cases hk : k < nx
      · have k1 : (k : Int) < (nx : Int) := by omega
        obtain ⟨⟨p1, p2⟩, hp⟩ : ∃ p, X[k]? = some p := ⟨_, List.getElem?_eq_getElem (by rw [HNX.out]; exact hk)⟩
        obtain ⟨b, o, rfl, _, hc⟩ := (HV.out.below HB.out).cells HNX.out (by omega)
        obtain ⟨g0, g1⟩ := wrd_cells hc hp
        simp only at g0 g1
        have hmem := List.mem_of_getElem? hp
        have cs := CS.out _ hmem
        have h3 := H3.out _ hmem
        have cp := CP.out p1
        simp only at cs h3
        obtain ⟨pk, hpk⟩ : ∃ z, preK p1 s = z := ⟨_, rfl⟩
        rw [hpk] at h3
        simp only [hpk] at cp
        have hal : Hid (Below w2.heap.size w2 (wr.alloc (.cells #[.string p1, .int .i64 p2] 72))) := Lib.hid (HB.out.alloc HB.out.size _)
        obtain ⟨c0, c1⟩ := cells2_new wr (.string p1) (.int .i64 p2) 72
        obtain ⟨W1, hW1⟩ : ∃ z, wr.alloc (.cells #[.string p1, .int .i64 p2] 72) = z := ⟨_, rfl⟩
        obtain ⟨B, hB⟩ : ∃ z, wr.heap.size = z := ⟨_, rfl⟩
        rw [hW1, hB] at c0 c1
        rw [hW1] at hal
        have n1 : (p1.toList == p1.toList) = true := beq_self_eq_true _
        have CS1 := Lib.hid cs; have CP1 := Lib.hid cp; have HW1 := Lib.hid hW1; have HBB := Lib.hid hB
        clear cs cp hpk hc hp hmem hW1 hB
        cases pk
        · clear h3
          go_wp2_with (first
            | (rw [HW1.out, HBB.out])
            | (go_at_call 42; refine (CP1.out _).mono ?_; rintro e w5 ⟨rfl, e5⟩; obtain rfl := e5)
            | (go_at_call 31; refine (CS1.out _ hal.out).mono ?_; rintro e w6 ⟨rfl, b6⟩; have HB6 := Lib.hid (hal.out.trans (b6.mono hal.out.size)); have c06 := cell_keep b6 c0; clear b6))
          exact ⟨⟨k + 1, by omega, by go_num, HB6⟩, by simp [RowKit.intOf]; omega⟩
        · have h4 := h3 rfl
          have z1 : ¬ (0 : Int) < (p1.size : Int) := by omega
          have z2 : decide ((0 : Int) < (p1.size : Int)) = false := decide_eq_false z1
          clear h3 h4
          go_wp2_with (first
            | (rw [HW1.out, HBB.out])
            | (go_at_call 42; refine (CP1.out _).mono ?_; rintro e w5 ⟨rfl, e5⟩; obtain rfl := e5)
            | (go_at_call 31; refine (CS1.out _ hal.out).mono ?_; rintro e w6 ⟨rfl, b6⟩; have HB6 := Lib.hid (hal.out.trans (b6.mono hal.out.size)); have c06 := cell_keep b6 c0; clear b6))
          exact ⟨⟨k + 1, by omega, by go_num, HB6⟩, by simp [RowKit.intOf]; omega⟩
      · obtain rfl : k = nx := by omega
        have HBF := Lib.hid (B2.out.trans (HB.out.mono B2.out.size))
        go_wp2
        go_ret
        exact ⟨rfl, HBF.out⟩
  · go_wp2_with fail
    refine (CL.out _ (Below.refl _ _)).mono ?_
    rintro e w3 ⟨rfl, b3⟩
    have B3 := Lib.hid b3
    clear b3
    have cf := CF.out oS w3 B3.out
    rw [h4] at cf
    have CF1 := Lib.hid cf
    have cp := CP.out oS
    rw [h5] at cp
    have CP0 := Lib.hid cp
    clear cf cp h4 h5
    go_wp2_with fail
    refine CF1.out.mono ?_
    rintro e w4 ⟨rfl, b4⟩
    have B4 := Lib.hid (B3.out.trans (b4.mono B3.out.size))
    clear b4
    go_wp2_with (go_at_call 42; refine (CP0.out _).mono ?_; rintro e w5 ⟨rfl, e5⟩; obtain rfl := e5.symm)
    go_loopw [58] (fun s58 wr => ∃ k : Nat, k ≤ nx ∧ s58 = .int .i64 k ∧ Hid (Below w2.heap.size w2 wr)) (fun s58 _ => nx - (RowKit.intOf s58).toNat)
    case atStart => exact ⟨0, Nat.zero_le _, rfl, B4⟩
    case round =>
      obtain ⟨k, hkn, rfl, HB⟩ := hrel
      by_cases hk : k < nx
      · have k1 : (k : Int) < (nx : Int) := by omega
        obtain ⟨⟨p1, p2⟩, hp⟩ : ∃ p, X[k]? = some p := ⟨_, List.getElem?_eq_getElem (by rw [HNX.out]; exact hk)⟩
        obtain ⟨b, o, rfl, _, hc⟩ := (HV.out.below HB.out).cells HNX.out (by omega)
        obtain ⟨g0, g1⟩ := wrd_cells hc hp
        simp only at g0 g1
        have hmem := List.mem_of_getElem? hp
        have cs := CS.out _ hmem
        have h3 := H3.out _ hmem
        have cp := CP.out p1
        simp only at cs h3
        obtain ⟨pk, hpk⟩ : ∃ z, preK p1 s = z := ⟨_, rfl⟩
        rw [hpk] at h3
        simp only [hpk] at cp
        have hal : Hid (Below w2.heap.size w2 (wr.alloc (.cells #[.string p1, .int .i64 p2] 72))) := Lib.hid (HB.out.alloc HB.out.size _)
        obtain ⟨c0, c1⟩ := cells2_new wr (.string p1) (.int .i64 p2) 72
        obtain ⟨W1, hW1⟩ : ∃ z, wr.alloc (.cells #[.string p1, .int .i64 p2] 72) = z := ⟨_, rfl⟩
        obtain ⟨B, hB⟩ : ∃ z, wr.heap.size = z := ⟨_, rfl⟩
        rw [hW1, hB] at c0 c1
        rw [hW1] at hal
        have n1 : (p1.toList == p1.toList) = true := beq_self_eq_true _
        have CS1 := Lib.hid cs; have CP1 := Lib.hid cp; have HW1 := Lib.hid hW1; have HBB := Lib.hid hB
        clear cs cp hpk hc hp hmem hW1 hB
        cases pk
        · clear h3
          go_wp2_with (first
            | (rw [HW1.out, HBB.out])
            | (go_at_call 42; refine (CP1.out _).mono ?_; rintro e w5 ⟨rfl, e5⟩; obtain rfl := e5)
            | (go_at_call 31; refine (CS1.out _ hal.out).mono ?_; rintro e w6 ⟨rfl, b6⟩; have HB6 := Lib.hid (hal.out.trans (b6.mono hal.out.size)); have c06 := cell_keep b6 c0; clear b6))
          exact ⟨⟨k + 1, by omega, by go_num, HB6⟩, by simp [RowKit.intOf]; omega⟩
        · have h4 := h3 rfl
          have z1 : ¬ (oS.size : Int) < (p1.size : Int) := by omega
          have z2 : decide ((oS.size : Int) < (p1.size : Int)) = false := decide_eq_false z1
          clear h3 h4
          go_wp2_with (first
            | (rw [HW1.out, HBB.out])
            | (go_at_call 42; refine (CP1.out _).mono ?_; rintro e w5 ⟨rfl, e5⟩; obtain rfl := e5)
            | (go_at_call 31; refine (CS1.out _ hal.out).mono ?_; rintro e w6 ⟨rfl, b6⟩; have HB6 := Lib.hid (hal.out.trans (b6.mono hal.out.size)); have c06 := cell_keep b6 c0; clear b6))
          exact ⟨⟨k + 1, by omega, by go_num, HB6⟩, by simp [RowKit.intOf]; omega⟩
      · obtain rfl : k = nx := by omega
        have HBF := Lib.hid (B2.out.trans (HB.out.mono B2.out.size))
        go_wp2
        go_ret
        exact ⟨rfl, HBF.out⟩
end Go.Proofs.YtljaibhhkjapmaaDoor
