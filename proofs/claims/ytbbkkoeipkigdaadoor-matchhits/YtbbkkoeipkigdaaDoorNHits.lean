/- MatchHits, walked over what match's functions and the document's answer. -/
import Derived.Test.YtbbkkoeipkigdaaDoorPk14
import Derived.Test.YtbbkkoeipkigdaaDoorNRefA
import Derived.Test.YtbbkkoeipkigdaaDoorPk8
namespace Go.Proofs.YtbbkkoeipkigdaaDoor
open Go.RowKit Go.Shelf
set_option linter.unusedSimpArgs false
set_option linter.unusedVariables false

set_option maxRecDepth 100000 in
theorem refIs8_any (u : Value) (l : List Blk) (w : World) (hu : BRuns w u l) (hl : l.length ≤ 1000000) (hz : szL l) :
    Calls Tryd.prog 12 #[u] w fun e w' => e = .returned (.int .i64 (risS l)) ∧ Below w.heap.size w w' := by
  have C := Lib.hid (refIs_any u l w hu hl hz)
  go_enter Tryd.func12, Tryd.ntmps12
  go_wp2_with fail
  refine C.out.mono ?_
  rintro e w1 ⟨rfl, hb⟩
  go_wp2
  go_ret
  exact ⟨rfl, hb⟩
theorem ris_from {L : List Blk} (h : risS L = 0) : ∀ b ∈ L, Lib.validD b.1.data.toList = true ∧ (items b.1.data.toList).length ≤ 3 := fun b hb => by
  obtain ⟨h1, _, _⟩ := risS_facts h
  exact rchk_from (rall_zero.1 h1 b hb)
theorem htS_len {L : List Blk} (hL : MRules L) (s : List UInt8) : (htS L s).length ≤ 266240 := by
  unfold htS
  split
  · rename_i h
    exact hits_bound8 hL.many (rdE_ok h).2.1
  · simp

set_option maxRecDepth 100000 in
set_option maxHeartbeats 8000000 in
theorem matchHits_walk (u : Value) (L : List Blk) (s : ByteArray) (a : Int) (w : World) (h : Okw w) (hu : BRuns w u L) (hz : szM L) (hs : s.size ≤ 140737488355328) :
    Calls Tryd.prog 3 #[u, .string s, .int .i64 a] w (RetTrue w) := by
  have cg := fun W hu => great8_det u L s W hu hz (by omega)
  have key : grB8 L s.size = false → L.length ≤ 200 ∧ s.size ≤ 3000 ∧ szL L := fun h => grB8_no h
  have cn := fun (hg : grB8 L s.size = false) W hO hu => new_any u L W hO hu (by have := (key hg).1; omega) (key hg).2.2
  have ci := fun (hg : grB8 L s.size = false) W hu => refIs8_any u L W hu (by have := (key hg).1; omega) (key hg).2.2
  have ch := fun (hg : grB8 L s.size = false) p W hO hr hM => hits_any p L s W hO (by have := (key hg).2.1; omega) hr hM
  have ca := fun (hg : grB8 L s.size = false) p W hO hr hM => at_any p L s a W hO (by have := (key hg).2.1; omega) hr hM
  have rh := fun (hg : grB8 L s.size = false) (hr0 : risS L = 0) W hu => refHits_any u L s W (by have := (key hg).2.1; omega) hu (by have := (key hg).1; omega) (key hg).2.2 (ris_from hr0)
  have ra := fun (hg : grB8 L s.size = false) (hr0 : risS L = 0) W hu => refAt_any u L s a W (by have := (key hg).2.1; omega) hu (by have := (key hg).1; omega) (key hg).2.2 (ris_from hr0)
  have rs := fun (hg : grB8 L s.size = false) (hr0 : risS L = 0) W hu => refStates_any u L W hu (by have := (key hg).1; omega) (key hg).2.2 (ris_from hr0)
  have hmr := fun h => @mrules_of L h
  have hlen := fun hL => @htS_len L hL s.data.toList
  obtain ⟨A, c, e⟩ := hu.slice
  obtain ⟨n, hn⟩ : ∃ n, L.length = n := ⟨_, rfl⟩
  rw [hn] at e
  subst e
  obtain ⟨er, her⟩ : ∃ z, risS L = z := ⟨_, rfl⟩
  simp only [her] at cn ci hmr rh ra rs
  obtain ⟨gr, hgr⟩ : ∃ z, grB8 L s.size = z := ⟨_, rfl⟩
  simp only [hgr] at cg cn ci ch ca rh ra rs
  obtain ⟨X, hX⟩ : ∃ z, htS L s.data.toList = z := ⟨_, rfl⟩
  obtain ⟨Y, hY⟩ : ∃ z, atS L s.data.toList a = z := ⟨_, rfl⟩
  obtain ⟨eh, heh⟩ : ∃ z, rdE s.data.toList = z := ⟨_, rfl⟩
  obtain ⟨ea, hea⟩ : ∃ z, atE s.data.toList a = z := ⟨_, rfl⟩
  obtain ⟨sp, hsp⟩ : ∃ z, statesP (frs L) = z := ⟨_, rfl⟩
  simp only [hX] at ch rh hlen
  simp only [hY] at ca ra
  simp only [heh] at ch rh
  simp only [hea] at ca ra
  have cs := fun p W hM => states_any p L W hM
  simp only [hsp] at cs rs
  have CG := Lib.hid cg; have CN := Lib.hid cn; have CI := Lib.hid ci; have CH := Lib.hid ch; have CA := Lib.hid ca; have RH := Lib.hid rh; have RA := Lib.hid ra; have RS := Lib.hid rs; have CS := Lib.hid cs
  have HMR := Lib.hid hmr; have HLEN := Lib.hid hlen
  have HU := Lib.hid hu; have HOK := Lib.hid h
  have AL := Lib.hid alive8_any
  have SM := Lib.hid refSame8_any; have IN := Lib.hid refInts_any; have LH := Lib.hid lawHits_any
  clear cg key cn ci ch ca rh ra rs cs hmr hlen hu h hn her hgr hX hY heh hea hsp hz hs
  go_enter Tryd.func3, Tryd.ntmps3
  go_wp2_with fail
  refine (AL.out _ HOK.out).mono ?_
  rintro e w1 ⟨rfl, b1⟩
  have B1 := Lib.hid b1
  clear b1
  go_wp2_with fail
  refine (CG.out w1 (HU.out.below B1.out)).mono ?_
  rintro e w2 ⟨rfl, b2⟩
  have B2 := Lib.hid (B1.out.trans (b2.mono B1.out.size))
  clear b2 B1
  cases gr with
  | true =>
    go_wp2
    go_ret
    exact ⟨rfl, B2.out⟩
  | false =>
  have CN1 := Lib.hid (CN.out (by first | rfl | trivial) w2 (HOK.out.below B2.out) (HU.out.below B2.out))
  go_wp2_with fail
  refine CN1.out.mono ?_
  rintro e w3 ⟨mv, rfl, hN, b3⟩
  have B3 := Lib.hid (B2.out.trans (b3.mono B2.out.size))
  have HNP := Lib.hid hN
  clear b3 hN CN1 CN
  have CI1 := Lib.hid (CI.out (by first | rfl | trivial) w3 (HU.out.below B3.out))
  go_wp2_with fail
  refine CI1.out.mono ?_
  rintro e w4 ⟨rfl, b4⟩
  have B34 := Lib.hid b4
  have B4 := Lib.hid (B3.out.trans (b4.mono B3.out.size))
  clear b4 CI1 CI
  by_cases h0 : er = 0
  rotate_left
  · have hne : (er != 0) = true := by simpa using h0
    obtain rfl : mv = .pointer none := by
      rcases HNP.out with ⟨_, e⟩ | ⟨e, _⟩
      · exact e
      · exact absurd e h0
    go_wp2
    go_ret
    exact ⟨by simp, B4.out⟩
  subst h0
  obtain ⟨p, rfl, hM⟩ : ∃ p, mv = .pointer (some ⟨p, 0, none⟩) ∧ MachOk w4 p L := by
    rcases HNP.out with ⟨h, _⟩ | ⟨_, p, e, _, hM⟩
    · exact absurd rfl h
    · exact ⟨p, e, hM.below B34.out⟩
  have hR := HMR.out (by first | rfl | trivial)
  have K4 := Lib.hid (HOK.out.below B4.out)
  have U4 := Lib.hid (HU.out.below B4.out)
  have HR := Lib.hid hR
  have S1 := Lib.hid (CS.out p w4 hM)
  have S2 := Lib.hid (RS.out (by first | rfl | trivial) (by first | rfl | trivial) w4 U4.out)
  have HM := Lib.hid hM
  clear hM hR HNP HMR CS RS B34
  go_wp2_with (first | (go_at_call 13; refine S1.out.mono ?_; rintro e w5 ⟨rfl, rfl⟩) | (go_at_call 14; refine S2.out.mono ?_; rintro e w6 ⟨rfl, b6⟩; have B46 := Lib.hid b6; clear b6) | fail)
  have B6 := Lib.hid (B4.out.trans (B46.out.mono B4.out.size))
  have K6 := Lib.hid (HOK.out.below B6.out)
  have U6 := Lib.hid (HU.out.below B6.out)
  have HM6 := Lib.hid (HM.out.below B46.out)
  have L1 := Lib.hid (HLEN.out HR.out)
  clear S1 S2 HM K4 U4 B4 B46 HLEN
  have C1 := Lib.hid (CH.out (by first | rfl | trivial) p w6 K6.out HR.out HM6.out)
  clear CH
  refine C1.out.mono ?_
  rintro e w7 ⟨v7, rfl, hr7, b7⟩
  obtain ⟨A7, c7, rfl⟩ := GRuns.slice hr7
  have B67 := Lib.hid b7
  have R7 := Lib.hid hr7
  clear hr7 b7 C1
  have C2 := Lib.hid (RH.out (by first | rfl | trivial) (by first | rfl | trivial) w7 (U6.out.below B67.out))
  clear RH
  go_wp2_with fail
  refine C2.out.mono ?_
  rintro e w8 ⟨v8, rfl, hr8, b8⟩
  obtain ⟨A8, c8, rfl⟩ := GRuns.slice hr8
  have B68 := Lib.hid (B67.out.trans (b8.mono B67.out.size))
  have R7' := Lib.hid (R7.out.below b8)
  have R8 := Lib.hid hr8
  clear hr8 b8 C2 B67 R7
  have C3 := Lib.hid (CA.out (by first | rfl | trivial) p w8 (K6.out.below B68.out) HR.out (HM6.out.below B68.out))
  clear CA
  go_wp2_with fail
  refine C3.out.mono ?_
  rintro e w9 ⟨v9, rfl, hr9, b9⟩
  obtain ⟨A9, c9, rfl⟩ := GRuns.slice hr9
  have B69 := Lib.hid (B68.out.trans (b9.mono B68.out.size))
  have R7 := Lib.hid (R7'.out.below b9)
  have R8' := Lib.hid (R8.out.below b9)
  have R9 := Lib.hid hr9
  clear hr9 b9 C3 B68 R7' R8
  have C4 := Lib.hid (RA.out (by first | rfl | trivial) (by first | rfl | trivial) w9 (U6.out.below B69.out))
  clear RA
  go_wp2_with fail
  refine C4.out.mono ?_
  rintro e w10 ⟨v10, rfl, hr10, b10⟩
  obtain ⟨A10, c10, rfl⟩ := GRuns.slice hr10
  have B610 := Lib.hid (B69.out.trans (b10.mono B69.out.size))
  have Ra := Lib.hid (R7.out.below b10)
  have Rb := Lib.hid (R8'.out.below b10)
  have Rc := Lib.hid (R9.out.below b10)
  have Rd := Lib.hid hr10
  clear hr10 b10 C4 B69 R7 R8' R9
  have C5 := Lib.hid (LH.out _ X w10 Ra.out L1.out)
  go_wp2_with fail
  refine C5.out.mono ?_
  rintro e w11 ⟨v11, rfl, hr11, b11⟩
  obtain ⟨A11, c11, rfl⟩ := GRuns.slice hr11
  have B611 := Lib.hid (B610.out.trans (b11.mono B610.out.size))
  have C6 := Lib.hid (SM.out _ _ X X w11 hr11 (Rb.out.below b11))
  have Rc' := Lib.hid (Rc.out.below b11)
  have Rd' := Lib.hid (Rd.out.below b11)
  clear hr11 b11 C5 Ra Rb Rc Rd
  have hxx : decide (X = X) = true := by simp
  rw [hxx] at C6
  have IN2 := Lib.hid (fun W (hb : Below w11.heap.size w11 W) => IN.out _ _ Y Y W (Rc'.out.below hb) (Rd'.out.below hb))
  have hyy : decide (Y = Y) = true := by simp
  rw [hyy] at IN2
  clear hxx hyy IN SM LH
  go_wp2_with fail
  refine C6.out.mono ?_
  rintro e w12 ⟨rfl, d12⟩
  have b12 := below_drawn d12
  have C7 := Lib.hid (IN2.out w12 b12)
  have B612 := Lib.hid (B611.out.trans (b12.mono B611.out.size))
  clear d12 b12 C6 IN2
  go_wp2_with fail
  refine C7.out.mono ?_
  rintro e w13 ⟨rfl, d13⟩
  have B613 := Lib.hid (B612.out.trans ((below_drawn d13).mono B612.out.size))
  clear d13 C7
  go_wp2
  go_ret
  exact ⟨by simp, B6.out.trans (B613.out.mono B6.out.size)⟩
end Go.Proofs.YtbbkkoeipkigdaaDoor
