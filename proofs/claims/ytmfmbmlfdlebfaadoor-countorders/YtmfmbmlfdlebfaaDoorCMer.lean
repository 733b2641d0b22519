/- errataref06.Merge: the table of two tables, or why one of them is none. -/
import Derived.Test.YtmfmbmlfdlebfaaDoorPk14
namespace Go.Proofs.YtmfmbmlfdlebfaaDoor
open Go.RowKit Go.Shelf
set_option linter.unusedSimpArgs false
set_option linter.unusedVariables false

set_option maxRecDepth 100000 in
set_option maxHeartbeats 8000000 in
theorem refMerge_any (u v : Value) (a b : List Blk) (w : World) (hu : BRuns w u a) (hv : BRuns w v b) (ha : a.length ≤ 5000) (hb : b.length ≤ 5000) (hza : szB a) (hzb : szB b) :
    Calls Tryd.prog 22 #[u, v] w fun e w' => ∃ x, e = .returned (.tuple #[x, .int .i64 (merE a b)]) ∧ BRuns w' x (merS a b) ∧ Below w.heap.size w w' := by
  obtain ⟨A, c, e⟩ := hu.slice
  subst e
  obtain ⟨B, d, e⟩ := hv.slice
  subst e
  have c1 := fun w hu => refCheck6_any (.slice A a.length c) a w hu (by omega) hza
  have c2 := fun w hv => refCheck6_any (.slice B b.length d) b w hv (by omega) hzb
  have c3 := fun x w hx => refTable_any x (a ++ b) w hx (by simp; omega) (fun z hz => by rcases List.mem_append.1 hz with h | h; exact hza z h; exact hzb z h)
  have hE : merE a b = if chkT a = 0 then (if chkT b = 0 then tabE (a ++ b) else chkT b) else chkT a := rfl
  have hS : merS a b = if chkT a = 0 then (if chkT b = 0 then tabS (a ++ b) else []) else [] := by
    rw [merS, hE, tabS]
    by_cases h1 : chkT a = 0
    · rw [if_pos h1, if_pos h1]
      by_cases h2 : chkT b = 0
      · rw [if_pos h2, if_pos h2]
      · rw [if_neg h2, if_neg h2, if_neg h2]
    · rw [if_neg h1, if_neg h1, if_neg h1]
  obtain ⟨R, hR⟩ : ∃ z, merE a b = z := ⟨_, rfl⟩
  obtain ⟨M, hM⟩ : ∃ z, merS a b = z := ⟨_, rfl⟩
  rw [hR] at hE ⊢
  rw [hM] at hS ⊢
  obtain ⟨ea, hea⟩ : ∃ z, chkT a = z := ⟨_, rfl⟩
  obtain ⟨eb, heb⟩ : ∃ z, chkT b = z := ⟨_, rfl⟩
  obtain ⟨et, het⟩ : ∃ z, tabE (a ++ b) = z := ⟨_, rfl⟩
  obtain ⟨T, hT⟩ : ∃ z, tabS (a ++ b) = z := ⟨_, rfl⟩
  simp only [hea] at c1 hE hS
  simp only [heb] at c2 hE hS
  simp only [het, hT] at c3 hE hS
  obtain ⟨n, hn⟩ : ∃ n, a.length = n := ⟨_, rfl⟩
  obtain ⟨m, hm⟩ : ∃ n, b.length = n := ⟨_, rfl⟩
  rw [hn] at c1 ha hu ⊢
  rw [hm] at c2 hb hv ⊢
  have HU := Lib.hid hu; have HV := Lib.hid hv; have HE := Lib.hid hE; have HS := Lib.hid hS; have HN := Lib.hid hn; have HM := Lib.hid hm
  have C1 := Lib.hid c1; have C2 := Lib.hid c2; have C3 := Lib.hid c3
  clear hu hv hE hS hn hm c1 c2 c3 hea heb het hT hR hM hza hzb
  go_enter Tryd.func22, Tryd.ntmps22
  go_wp2_with fail
  refine (C1.out _ HU.out).mono ?_
  rintro e w1 ⟨rfl, b1⟩
  have U1 := Lib.hid (HU.out.below b1); have V1 := Lib.hid (HV.out.below b1)
  have B1 := Lib.hid b1; clear b1
  by_cases h1 : ea = 0
  · subst h1
    go_wp2_with fail
    refine (C2.out _ V1.out).mono ?_
    rintro e w2 ⟨rfl, b2⟩
    have U2 := Lib.hid (U1.out.below b2); have V2 := Lib.hid (V1.out.below b2)
    have B2 := Lib.hid (B1.out.trans (b2.mono B1.out.size)); clear b2
    by_cases h2 : eb = 0
    · subst h2
      have hba := blw_1 w2 (.cells #[] 43)
      obtain ⟨v4, w4, hrun4, hown4, hg4, hat4⟩ := append_many (P := Tryd.prog) blk_ln blk_one info_blk rfl (by decide) (by decide) Tryd.underlying22 _ w2.heap.size _ 0 [] (own_litB w2 _ (Nat.le_refl _)) _ a (U2.out.below hba) (by simp) (by rw [HN.out]; omega)
      have hb4 : Below w2.heap.size w2 w4 := hba.grown hg4 (by simp) (fun k hk => by simp [Value.ownBlock] at hk; omega)
      obtain ⟨v5, w5, hrun5, hown5, hg5, hat5⟩ := append_many (P := Tryd.prog) blk_ln blk_one info_blk rfl (by decide) (by decide) Tryd.underlying22 _ w2.heap.size _ _ _ hown4 _ b (V2.out.below hb4) hb4.size (by rw [HN.out, HM.out]; omega)
      have hb5 : Below w2.heap.size w2 w5 := hb4.grown hg5 hb4.size (fun k hk => by
        rcases hat4 with e | e <;> rw [e] at hk <;> simp [Value.ownBlock] at hk <;> omega)
      have hz : BRuns w5 v5 (a ++ b) := GRuns.of_own (n := 0 + a.length + b.length) blk_ln (by simp) (by rw [gCells_append]; simpa using hown5)
      have h4 : BRuns w4 v4 a := GRuns.of_own (n := 0 + a.length) blk_ln (by simp) (by simpa using hown4)
      obtain ⟨A4, c4, e4⟩ := h4.slice
      obtain ⟨A5, c5, e5⟩ := hz.slice
      rw [HN.out] at e4
      rw [List.length_append, HN.out, HM.out] at e5
      subst e4 e5
      have H4 := Lib.hid hrun4; have H5 := Lib.hid hrun5; have HZ := Lib.hid hz
      have B5 := Lib.hid (B2.out.trans (hb5.mono B2.out.size))
      clear hrun4 hrun5 hown4 hown5 hg4 hg5 hat4 hat5 hz h4 hb4 hb5 hba
      go_wp2_with (first
        | (at_builtin; refine wpList_append_run (.tmp 18) (.tmp 19) 22 _ _ _ _ H4.out rfl rfl rfl rfl ?_)
        | (at_builtin; refine wpList_append_run (.tmp 20) (.tmp 21) 22 _ _ _ _ H5.out rfl rfl rfl rfl ?_))
      refine (C3.out _ _ HZ.out).mono ?_
      rintro e w6 ⟨x, rfl, r6, b6⟩
      obtain ⟨A6, c6, e6⟩ := r6.slice
      subst e6
      have R6 := Lib.hid r6
      have B6 := Lib.hid (B5.out.trans (b6.mono B5.out.size)); clear b6 r6
      have hr : Hid (R = et) := Lib.hid (by rw [HE.out]; simp)
      have hs : Hid (M = T) := Lib.hid (by rw [HS.out]; simp)
      go_wp2
      go_ret2
      exact ⟨_, by rw [hr.out]; rfl, by rw [hs.out]; exact R6.out, B6.out⟩
    · have h2' : (eb == 0) = false := by simpa using h2
      have hr : Hid (R = eb) := Lib.hid (by rw [HE.out]; simp [h2])
      have hs : Hid (M = []) := Lib.hid (by rw [HS.out]; simp [h2])
      go_wp2
      go_ret2
      exact ⟨_, by rw [hr.out]; rfl, by rw [hs.out]; exact GRuns.nil_ _ _ _, B2.out⟩
  · have h1' : (ea == 0) = false := by simpa using h1
    have hr : Hid (R = ea) := Lib.hid (by rw [HE.out, if_neg h1])
    have hs : Hid (M = []) := Lib.hid (by rw [HS.out, if_neg h1])
    go_wp2
    go_ret2
    exact ⟨_, by rw [hr.out]; rfl, by rw [hs.out]; exact GRuns.nil_ _ _ _, B1.out⟩
end Go.Proofs.YtmfmbmlfdlebfaaDoor
