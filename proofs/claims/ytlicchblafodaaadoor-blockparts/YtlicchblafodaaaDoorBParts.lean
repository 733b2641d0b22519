/- The law BlockParts, walked. -/
import Derived.Test.YtlicchblafodaaaDoorPk11
import Derived.Test.YtlicchblafodaaaDoorGenApp
namespace Go.Proofs.YtlicchblafodaaaDoor
open Go.RowKit Go.Shelf

theorem own_litSt (w : World) : (w.alloc (.cells #[] 45)).ownsRow w.heap.size 45 3 (.slice (some ⟨w.heap.size, 0, none⟩) 0 0) 0 [] :=
  ⟨by simp, .inr ⟨w.heap.size, 0, #[], rfl, Nat.le_refl _, heap_alloc_new w _, Nat.le_refl _, by simp [maxLen], by simp, by simp⟩⟩
theorem st_lit (w : World) (x : St) : StRuns (w.alloc (.cells #[.int .i64 x.1, .int .i32 x.2.1, .int .i32 x.2.2] 45)) (.slice (some ⟨w.heap.size, 0, none⟩) 1 1) [x] := by
  have e0 := heap_alloc_new w (.cells #[.int .i64 x.1, .int .i32 x.2.1, .int .i32 x.2.2] 45)
  refine ⟨_, 1, rfl, Nat.le_refl _, ⟨by simp [maxLen], fun h => by cases h⟩, fun _ => ⟨w.heap.size, 0, rfl, by simp, fun j hj => ?_⟩⟩
  obtain rfl : j = 0 := by simpa using hj
  refine ⟨?_, ?_, ?_⟩ <;> rw [cell_of_row _ _ _ _ _ (0, 0) e0] <;> simp
theorem stErr_parts (l m : List St) : (stErr l ≠ 0 ∧ stErr (l ++ [(0, 120, 120)] ++ m) = 7) ∨ (stErr l = 0 ∧ stErr m ≠ 0 ∧ stErr (l ++ [(0, 120, 120)] ++ m) = 7) ∨ (stErr l = 0 ∧ stErr m = 0 ∧ stErr (l ++ [(0, 120, 120)] ++ m) = 0 ∧ ofS (l ++ [(0, 120, 120)] ++ m) = ofS l ++ ofS m) := by
  have hx : stGood (0, 120, 120) = true := by decide +kernel
  have e : (l ++ [(0, 120, 120)] ++ m).all stGood = (l.all stGood && m.all stGood) := by
    rw [List.all_append, List.all_append, List.all_cons, List.all_nil, hx]; simp
  unfold stErr
  rw [e]
  cases h1 : l.all stGood with
  | false => left; exact ⟨by decide, rfl⟩
  | true =>
    cases h2 : m.all stGood with
    | false => right; left; exact ⟨rfl, by decide, rfl⟩
    | true =>
      right; right
      refine ⟨rfl, rfl, rfl, ?_⟩
      rw [List.append_assoc]
      exact ofS_parts l m _ rfl hx h1 h2

set_option maxRecDepth 100000 in
set_option maxHeartbeats 8000000 in
theorem blockParts_walk (u v : Value) (l m : List St) (w : World) (h : Okw w) (hu : StRuns w u l) (hv : StRuns w v m) (hfl : stFit l) (hfm : stFit m) (hzl : l.length ≤ 140737488351232) (hzm : m.length ≤ 140737488351232) :
    Calls Tryd.prog 7 #[u, v] w (RetTrue w) := by
  have ha := alive5_any
  unfold Alive5 at ha
  have HA := Lib.hid ha; clear ha
  obtain ⟨A, c, rfl, hxc, ⟨hxm, hA⟩, hxx⟩ := hu
  have hu : StRuns w (.slice A l.length c) l := ⟨A, c, rfl, hxc, ⟨hxm, hA⟩, hxx⟩
  obtain ⟨A', c', rfl, hyc, ⟨hym, hA'⟩, hyy⟩ := hv
  have hv : StRuns w (.slice A' m.length c') m := ⟨A', c', rfl, hyc, ⟨hym, hA'⟩, hyy⟩
  clear hxx hyy hA hA'
  by_cases hbig : 2000 < l.length + m.length
  · obtain ⟨n, hn⟩ : ∃ n, l.length = n := ⟨_, rfl⟩
    obtain ⟨k, hk⟩ : ∃ n, m.length = n := ⟨_, rfl⟩
    rw [hn] at hbig hzl ⊢
    rw [hk] at hbig hzm ⊢
    clear hu hv hn hk hxc hyc
    have i1 : (2000 : Int) < (n : Int) + (k : Int) := by omega
    go_enter Tryd.func7, Tryd.ntmps7
    go_wp2_with fail
    refine (HA.out _ h).mono ?_
    rintro e w1 ⟨rfl, b1⟩
    have B1 := Lib.hid b1; clear b1
    go_wp2
    go_ret
    exact ⟨rfl, B1.out⟩
  have c1 := fun w u h hu => of_own u l w h hu (by omega) hfl
  have c2 := fun w u h hu => of_own u m w h hu (by omega) hfm
  have c3 := fun w u h hu => of_own u (l ++ [(0, 120, 120)] ++ m) w h hu (by simp; omega) (by
    intro s hs
    rcases List.mem_append.1 hs with hs | hs
    · rcases List.mem_append.1 hs with hs | hs
      · exact hfl s hs
      · obtain rfl : s = (0, 120, 120) := by simpa using hs
        exact ⟨by decide, by decide⟩
    · exact hfm s hs)
  unfold OfPost at c1 c2 c3
  have hcs := stErr_parts l m
  have hla : (l ++ [((0 : Int), (120 : Int), (120 : Int))] ++ m).length = l.length + 1 + m.length := by simp; omega
  obtain ⟨L3, hL3⟩ : ∃ x, l ++ [((0 : Int), (120 : Int), (120 : Int))] ++ m = x := ⟨_, rfl⟩
  obtain ⟨X1, hX1⟩ : ∃ x, ofS l = x := ⟨_, rfl⟩
  obtain ⟨X2, hX2⟩ : ∃ x, ofS m = x := ⟨_, rfl⟩
  rw [hL3] at c3 hcs hla
  obtain ⟨X3, hX3⟩ : ∃ x, ofS L3 = x := ⟨_, rfl⟩
  obtain ⟨e1, he1⟩ : ∃ x, stErr l = x := ⟨_, rfl⟩
  obtain ⟨e2, he2⟩ : ∃ x, stErr m = x := ⟨_, rfl⟩
  obtain ⟨e3, he3⟩ : ∃ x, stErr L3 = x := ⟨_, rfl⟩
  have lX1 : X1.length ≤ l.length := by
    rw [← hX1]; have := ofS_count l; have := stC_len l; omega
  have lX2 : X2.length ≤ m.length := by
    rw [← hX2]; have := ofS_count m; have := stC_len m; omega
  simp only [hX1, hX2, hX3, he1, he2, he3] at c1 c2 c3 hcs
  clear hX1 hX2 hX3 he1 he2 he3 hfl hfm
  obtain ⟨n1, hn1⟩ : ∃ n, X1.length = n := ⟨_, rfl⟩
  obtain ⟨n2, hn2⟩ : ∃ n, X2.length = n := ⟨_, rfl⟩
  obtain ⟨n3, hn3⟩ : ∃ n, X3.length = n := ⟨_, rfl⟩
  simp only [hn1] at c1 lX1
  simp only [hn2] at c2 lX2
  simp only [hn3] at c3
  have HN1 := Lib.hid hn1; have HN2 := Lib.hid hn2; have HN3 := Lib.hid hn3; clear hn1 hn2 hn3
  have HL3 := Lib.hid hL3; clear hL3
  have HU := Lib.hid hu; have HV := Lib.hid hv; clear hu hv
  obtain ⟨n, hn⟩ : ∃ n, l.length = n := ⟨_, rfl⟩
  obtain ⟨k, hk⟩ : ∃ n, m.length = n := ⟨_, rfl⟩
  rw [hn] at hbig hzl lX1 hla HU hxc ⊢
  rw [hk] at hbig hzm lX2 hla HV hyc ⊢
  have HN := Lib.hid hn; have HK := Lib.hid hk; clear hn hk
  have i1 : ¬ (2000 : Int) < (n : Int) + (k : Int) := by omega
  have C1 := Lib.hid c1; have C2 := Lib.hid c2; have C3 := Lib.hid c3
  clear c1 c2 c3
  have HCS := Lib.hid hcs; clear hcs
  go_enter Tryd.func7, Tryd.ntmps7
  go_wp2_with fail
  refine (HA.out _ h).mono ?_
  rintro e w1 ⟨rfl, b1⟩
  have K1 : Hid (Okw w1) := Lib.hid (h.below b1)
  have U1 := Lib.hid (HU.out.below b1); have V1 := Lib.hid (HV.out.below b1)
  have B1 := Lib.hid b1; clear b1
  go_wp2_with fail
  refine (C1.out _ _ K1.out U1.out).mono ?_
  rintro e w2 ⟨va, rfl, r2, b2⟩
  have R2 := Lib.hid r2; clear r2
  have K2 : Hid (Okw w2) := Lib.hid (K1.out.below b2)
  have U2 := Lib.hid (U1.out.below b2); have V2 := Lib.hid (V1.out.below b2)
  have B2 := Lib.hid (B1.out.trans (b2.mono B1.out.size))
  have S12a : w1.heap.size ≤ w2.heap.size := b2.size
  clear b2
  go_wp2_with fail
  refine (C2.out _ _ K2.out V2.out).mono ?_
  rintro e w3 ⟨vb, rfl, r3, b3⟩
  have R3 := Lib.hid r3; clear r3
  have R2' := Lib.hid (own_below R2.out b3)
  have K3 : Hid (Okw w3) := Lib.hid (K2.out.below b3)
  have U3 := Lib.hid (U2.out.below b3); have V3 := Lib.hid (V2.out.below b3)
  have B3 := Lib.hid (B2.out.trans (b3.mono B2.out.size))
  have S23 : w2.heap.size ≤ w3.heap.size := b3.size
  clear b3
  -- the three appends
  have hba : Below w3.heap.size w3 (w3.alloc (.cells #[] 45)) := (Below.refl _ _).alloc (Nat.le_refl _) _
  obtain ⟨v4, w4, hrun4, hown4, hg4, hat4⟩ := append_steps _ w3.heap.size _ 0 [] (own_litSt w3) _ l (U3.out.below hba) (by simp) (by rw [HN.out]; omega)
  have hb4 : Below w3.heap.size w3 w4 := hba.grown hg4 (by simp) (fun k hk => by simp [Value.ownBlock] at hk; omega)
  have hat4' : v4.ownBlock = some w3.heap.size ∨ v4.ownBlock = some (w3.heap.size + 1) := by
    rcases hat4 with e | e
    · left; rw [e]; rfl
    · right; rw [e]; simp
  have hbx : Below w4.heap.size w4 (w4.alloc (.cells #[.int .i64 0, .int .i32 120, .int .i32 120] 45)) := (Below.refl _ _).alloc (Nat.le_refl _) _
  obtain ⟨v5, w5, hrun5, hown5, hg5, hat5⟩ := append_steps _ w3.heap.size _ _ _ (own_below hown4 hbx) _ [(0, 120, 120)] (st_lit w4 (0, 120, 120)) (Nat.le_trans hb4.size hbx.size) (by rw [HN.out]; simp; omega)
  have hb5 : Below w3.heap.size w3 w5 := (hb4.trans (hbx.mono hb4.size)).grown hg5 (Nat.le_trans hb4.size hbx.size) (fun k hk => by
    rcases hat4' with e | e <;> rw [e] at hk <;> simp at hk <;> omega)
  have hat5' : ∀ k, v5.ownBlock = some k → w3.heap.size ≤ k := by
    intro k hk
    rcases hat5 with e | e
    · rw [e] at hk
      rcases hat4' with e' | e' <;> rw [e'] at hk <;> simp at hk <;> omega
    · rw [e] at hk
      have := hb4.size
      simp at hk; omega
  obtain ⟨v6, w6, hrun6, hown6, hg6, hat6⟩ := append_steps _ w3.heap.size _ _ _ hown5 _ m (V3.out.below hb5) hb5.size (by rw [HN.out, HK.out]; simp; omega)
  have hb6 : Below w3.heap.size w3 w6 := hb5.grown hg6 hb5.size (fun k hk => hat5' k hk)
  have hst : StRuns w6 v6 L3 := StRuns.of_own (n := 0 + l.length + 1 + m.length) (by rw [← HL3.out]; simpa [stCells] using hown6)
  obtain ⟨A4, c4, hv4, _⟩ : StRuns w4 v4 l := StRuns.of_own (n := 0 + l.length) (by simpa using hown4)
  obtain ⟨A5, c5, hv5, _⟩ : StRuns w5 v5 (l ++ [(0, 120, 120)]) := StRuns.of_own (n := 0 + l.length + 1) (by simpa [stCells] using hown5)
  have hst' := hst
  obtain ⟨A6, c6, hv6, _⟩ := hst'
  rw [HN.out] at hv4
  rw [List.length_append, HN.out] at hv5
  rw [hla] at hv6
  simp only [List.length_cons, List.length_nil, Nat.zero_add] at hv5
  subst hv4 hv5 hv6
  have H4 := Lib.hid hrun4; have H5 := Lib.hid hrun5; have H6 := Lib.hid hrun6
  clear hrun4 hrun5 hrun6 hown4 hown5 hown6 hg4 hg5 hg6 hat4 hat5 hat6 hat4' hat5' hba hbx
  have K6 : Hid (Okw w6) := Lib.hid (K3.out.below hb6)
  have R26 := Lib.hid (own_below R2'.out hb6); have R36 := Lib.hid (own_below R3.out hb6)
  have B6 := Lib.hid (B3.out.trans (hb6.mono B3.out.size))
  have S36 : w3.heap.size ≤ w6.heap.size := hb6.size
  have HST := Lib.hid hst
  clear hst hb6 hb4 hb5 U1 V1 U2 V2 U3 V3 HU HV R2 R2' R3
  obtain ⟨Ba, ka, hva⟩ := (GRuns.of_own blk_len HN1.out R26.out).slice
  obtain ⟨Bb, kb, hvb⟩ := (GRuns.of_own blk_len HN2.out R36.out).slice
  rw [HN1.out] at hva
  rw [HN2.out] at hvb
  subst hva hvb
  go_wp2_with (first
    | (at_builtin; refine wpList_append_run (.tmp 30) (.tmp 31) 22 _ _ _ _ H4.out rfl rfl rfl rfl ?_)
    | (at_builtin; refine wpList_append_run (.tmp 32) (.tmp 34) 22 _ _ _ _ H5.out rfl rfl rfl rfl ?_)
    | (at_builtin; refine wpList_append_run (.tmp 35) (.tmp 36) 22 _ _ _ _ H6.out rfl rfl rfl rfl ?_))
  refine (C3.out _ _ K6.out HST.out).mono ?_
  rintro e w7 ⟨vc, rfl, r7, b7⟩
  have R7 := Lib.hid r7
  obtain ⟨Bc, kc, hvc⟩ := (GRuns.of_own blk_len HN3.out r7).slice
  rw [HN3.out] at hvc
  subst hvc
  have R27 := Lib.hid (own_below R26.out b7); have R37 := Lib.hid (own_below R36.out b7)
  have B7 := Lib.hid (B6.out.trans (b7.mono B6.out.size))
  have S67 : w6.heap.size ≤ w7.heap.size := b7.size
  have S01 : w.heap.size ≤ w1.heap.size := B1.out.size
  have S12 : w1.heap.size ≤ w7.heap.size := by omega
  clear r7 b7 H4 H5 H6 HST
  rcases HCS.out with ⟨z1, rfl⟩ | ⟨rfl, z1, rfl⟩ | ⟨rfl, rfl, rfl, hX⟩
  · have z : (e1 != 0) = true := by simpa using z1
    clear R27 R37 R7 R26 R36
    go_wp2
    go_ret
    exact ⟨rfl, B7.out⟩
  · have z : (e2 != 0) = true := by simpa using z1
    clear R27 R37 R7 R26 R36
    go_wp2
    go_ret
    exact ⟨rfl, B7.out⟩
  · have c8 := append_many (P := Tryd.prog) blk_len blk_one info_blk rfl (by decide) (by decide) Tryd.underlying24 w7 w1.heap.size _ _ _ R27.out _ X2 (GRuns.of_own blk_len HN2.out R37.out) S12 (by rw [HN2.out]; omega)
    obtain ⟨v8, w8, hrun8, hown8, hg8, _⟩ := c8
    have hlta := own_lt' R26.out
    have hgea : ∀ g, (Value.slice Ba n1 ka).ownBlock = some g → w1.heap.size ≤ g := by
      intro g hg
      rcases R27.out.2 with ⟨e, _⟩ | ⟨g', cap, cur, e, hb, _⟩
      · rw [e] at hg; simp [Value.ownBlock] at hg
      · rw [e] at hg
        obtain rfl : g' = g := by simpa [Value.ownBlock] using hg
        exact hb
    have hne : (Value.slice Bc n3 kc).ownBlock = none ∨ (Value.slice Bc n3 kc).ownBlock ≠ (Value.slice Ba n1 ka).ownBlock := by
      rcases R7.out.2 with ⟨e, _⟩ | ⟨g', cap, cur, e, hb, _⟩
      · left; rw [e]; rfl
      · right
        intro e9
        have := hlta g' (by rw [← e9, e]; rfl)
        omega
    have hr8 := R7.out.kept hg8 (by
      rcases hne with h9 | h9
      · left; exact h9
      · right; exact h9)
    have hb8 : Below w.heap.size w w8 := B7.out.grown hg8 (by omega) (fun g hg => Nat.le_trans S01 (hgea g hg))
    have G3 := GRuns.of_own (l := X3) blk_len HN3.out hr8
    have G8 : BRuns w8 v8 (X1 ++ X2) := GRuns.of_own (n := n1 + n2) blk_len (by rw [List.length_append, HN1.out, HN2.out]) (by rw [gCells_append]; rw [HN2.out] at hown8; exact hown8)
    have c5 := refSame5_any _ _ X3 (X1 ++ X2) w8 G3 G8
    rw [decide_eq_true hX] at c5
    obtain ⟨B8, k8, e8⟩ := G8.slice
    rw [List.length_append, HN1.out, HN2.out] at e8
    subst e8
    have C5 := Lib.hid c5; have H8 := Lib.hid hrun8; have HB8 := Lib.hid hb8
    clear c5 hrun8 hb8 G3 G8 hr8 hne hgea hlta hown8 hg8 R27 R37 R7 R26 R36 hX HCS
    go_wp2_with (first
      | (at_builtin; refine wpList_append_run (.tmp 53) (.tmp 54) 24 _ _ _ _ H8.out rfl rfl rfl rfl ?_)
      | (go_at_call 15; refine C5.out.mono ?_; rintro e w9 ⟨rfl, q, rfl⟩))
    go_ret
    exact ⟨rfl, below_draws HB8.out _⟩
end Go.Proofs.YtlicchblafodaaaDoor
