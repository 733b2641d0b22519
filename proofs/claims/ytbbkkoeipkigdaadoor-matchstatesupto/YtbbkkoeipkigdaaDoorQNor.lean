/- rule.Normal: rules each once, in order, with the least cost. -/
import Derived.Test.YtbbkkoeipkigdaaDoorPk9
import Derived.Test.YtbbkkoeipkigdaaDoorQSort
import Derived.Test.YtbbkkoeipkigdaaDoorQCpt2
import Derived.Test.YtbbkkoeipkigdaaDoorQRen
import Derived.Shelf.SlSortCmp.NoneTotal
namespace Go.Proofs.YtbbkkoeipkigdaaDoor
open Go.RowKit Go.Shelf Go.Lib
set_option linter.unusedSimpArgs false
set_option linter.unusedVariables false

theorem rsort_none (fv : Value) (w : World) : Calls Tryd.prog 44 #[.slice none 0 0, fv] w fun e w' => e = .returned (.tuple #[]) ∧ w' = w :=
  AnyF.slices_SortFunc_none Tryd.sortR none 0 fv w
set_option maxRecDepth 100000 in
theorem compact_none (fv : Value) (w : World) : Calls Tryd.prog 46 #[.slice none 0 0, fv] w fun e w' => e = .returned (.slice none 0 0) ∧ w' = w := by
  go_enter Tryd.func46, Tryd.ntmps46
  go_wp2
  go_ret
  exact ⟨rfl, rfl⟩
theorem norE_of_cpt {l d : List Blk} (h0 : rall l = 0) (hp : d.Perm l) (hs : SrtR d) : cpt d = nrm l := cpt_nrm (costB_of h0) hp hs
theorem szL_perm {l d : List Blk} (hz : szL l) (hp : d.Perm l) : szL (cpt d) := fun b hb => hz b (hp.subset (cpt_mem d b hb))

set_option maxRecDepth 100000 in
set_option maxHeartbeats 8000000 in
theorem rnormal_any (u : Value) (l : List Blk) (w : World) (hO : Okw w) (hu : BRuns w u l) (hl : l.length ≤ 2000000) (hz : szL l) :
    Calls Tryd.prog 25 #[u] w fun e w' => ∃ v, e = .returned (.tuple #[v, .int .i64 (norE l)]) ∧ BRuns w' v (norS l) ∧ Below w.heap.size w w' := by
  have ce := reach_any u l w hO hu hl hz
  obtain ⟨A, c, e⟩ := hu.slice
  subst e
  have hE : norE l = if rall l = 0 then (if 4096 < (nrm l).length then 6 else 0) else rall l := rfl
  have hS : norS l = if norE l = 0 then nrm l else [] := rfl
  have hc1 : rall l = 0 → ∀ d : List Blk, d.Perm l → SrtR d → cpt d = nrm l ∧ szL (cpt d) := fun h d hp hs => ⟨norE_of_cpt h hp hs, szL_perm hz hp⟩
  obtain ⟨ea, hea⟩ : ∃ z, rall l = z := ⟨_, rfl⟩
  obtain ⟨X, hX⟩ : ∃ z, nrm l = z := ⟨_, rfl⟩
  obtain ⟨nx, hnx⟩ : ∃ z, X.length = z := ⟨_, rfl⟩
  have hnl : nx ≤ l.length := by rw [← hnx, ← hX]; exact nrm_len l
  obtain ⟨er, her⟩ : ∃ z, norE l = z := ⟨_, rfl⟩
  obtain ⟨Y, hY⟩ : ∃ z, norS l = z := ⟨_, rfl⟩
  rw [her] at hE hS ⊢
  rw [hY] at hS ⊢
  rw [hea, hX, hnx] at hE
  rw [hX] at hS
  simp only [hea, hX] at hc1
  rw [hea] at ce
  obtain ⟨n, hn⟩ : ∃ n, l.length = n := ⟨_, rfl⟩
  rw [hn] at ce hl hu hnl ⊢
  have CE := Lib.hid ce; have HN := Lib.hid hn; have HU := Lib.hid hu; have HE := Lib.hid hE; have HS := Lib.hid hS; have HC1 := Lib.hid hc1; have HNX := Lib.hid hnx
  have CC := Lib.hid clone_rules
  clear ce hn hu hO hz hE hS hc1 hea hX hnx her hY
  go_enter Tryd.func25, Tryd.ntmps25
  go_wp2_with fail
  refine CE.out.mono ?_
  rintro e w1 ⟨rfl, b1⟩
  have U1 := Lib.hid (HU.out.below b1)
  have B1 := Lib.hid b1
  clear b1
  by_cases h0 : ea = 0
  · subst h0
    have hcp := HC1.out (by first | rfl | trivial)
    have HCP := Lib.hid hcp; clear hcp HC1
    have hE2 : Hid (er = if 4096 < nx then 6 else 0) := Lib.hid (by rw [HE.out, if_pos (by first | rfl | trivial)])
    clear HE CE
    have cc := CC.out A n c l w1 HN.out U1.out hl
    have CCL := Lib.hid cc; clear cc CC
    go_wp2_with fail
    refine CCL.out.mono ?_
    rintro e w2 ⟨v, rfl, o2, b2⟩
    have B2 : Hid (Below w.heap.size w w2) := Lib.hid (B1.out.trans (b2.mono B1.out.size))
    have SZ : w1.heap.size ≤ w2.heap.size := b2.size
    rcases o2.2 with ⟨rfl, hn0⟩ | ⟨g, cap, cur, rfl, hb, hh, h1, h2, h3, h4⟩
    · subst hn0
      have e0 : l = [] := List.eq_nil_of_length_eq_zero HN.out
      subst e0
      have hx0 := (HCP.out [] (List.Perm.refl _) List.Pairwise.nil).1
      have hx1 : X = [] := hx0.symm
      subst hx1
      have hx2 : nx = 0 := HNX.out.symm
      subst hx2
      have hEr : er = 0 := by rw [hE2.out, if_neg (by omega)]
      subst hEr
      have hYs : Hid (Y = []) := Lib.hid (by rw [HS.out]; simp)
      clear o2 b2
      have R2 : Hid (BRuns w2 (.slice none 0 0) ([] : List Blk)) := Lib.hid (GRuns.nil_ _ _ _)
      have cr := renewed_any (.slice none 0 0) [] w2 R2.out (by simp) (fun b hb => by simp at hb)
      have CR := Lib.hid cr; clear cr
      have CSN := Lib.hid rsort_none; have CPN := Lib.hid compact_none
      go_wp2_with fail
      refine (CSN.out _ _).mono ?_
      rintro e w3 ⟨rfl, rfl⟩
      go_wp2_with fail
      refine (CPN.out _ _).mono ?_
      rintro e w4 ⟨rfl, rfl⟩
      go_wp2_with fail
      refine CR.out.mono ?_
      rintro e w5 ⟨v5, rfl, o5, b5⟩
      have B5 := Lib.hid (B2.out.trans (b5.mono B2.out.size))
      have R5 := Lib.hid (GRuns.of_own rl_ln rfl o5)
      clear o5 b5
      go_wp2
      go_ret2
      exact ⟨v5, rfl, by rw [hYs.out]; exact R5.out, B5.out⟩
    · have cs := rsort_own l n g cap w1.heap.size w2 HN.out o2 hl SZ
      have CS := Lib.hid cs
      clear cs o2 hh h3 h4 cur
      go_wp2_with fail
      refine CS.out.mono ?_
      rintro e w3 ⟨rfl, d, hp, hs, hr, hbg, hc3, hm3, b3⟩
      have hdn : d.length = n := by rw [hp.length_eq]; exact HN.out
      obtain ⟨hx0, hx1⟩ := HCP.out d hp hs
      have cp := compact_any g cap n d w3 hdn hr hl hc3 hm3
      rw [hx0, HNX.out] at cp
      rw [hx0] at hx1
      have CP := Lib.hid cp
      have HZX := Lib.hid hx1
      have B3 : Hid (Below w.heap.size w w3) := Lib.hid (B1.out.trans (((show Below w1.heap.size w1 w2 from b2).trans b3).mono B1.out.size))
      have GL : w.heap.size ≤ g := Nat.le_trans B1.out.size hbg
      have HGL := Lib.hid GL
      clear cp hp hs hr b3 b2 CS hdn hx0 hx1 hb h1 h2 GL hbg SZ
      go_wp2_with fail
      refine CP.out.mono ?_
      rintro e w4 ⟨rfl, r4, g4⟩
      have B4 : Hid (Below w.heap.size w w4) := Lib.hid (B3.out.grown g4 B3.out.size (fun k hk => by cases hk; exact HGL.out))
      have R4 := Lib.hid r4
      clear r4 g4 CP
      by_cases hbig : 4096 < nx
      · have hb1 : (4096 : Int) < (nx : Int) := by omega
        have hEr : er = 6 := by rw [hE2.out, if_pos hbig]
        subst hEr
        have hYs : Hid (Y = []) := Lib.hid (by rw [HS.out]; simp)
        go_wp2
        go_ret2
        exact ⟨_, rfl, by rw [hYs.out]; exact GRuns.nil_ _ _ _, B4.out⟩
      · have hb1 : ¬ (4096 : Int) < (nx : Int) := by omega
        have hEr : er = 0 := by rw [hE2.out, if_neg hbig]
        subst hEr
        have hYs : Hid (Y = X) := Lib.hid (by rw [HS.out]; simp)
        have cr := renewed_any (.slice (some ⟨g, 0, none⟩) nx cap) X w4 R4.out (by rw [HNX.out]; omega) HZX.out
        rw [HNX.out] at cr
        have CR := Lib.hid cr; clear cr
        go_wp2_with fail
        refine CR.out.mono ?_
        rintro e w5 ⟨v5, rfl, o5, b5⟩
        have B5 := Lib.hid (B4.out.trans (b5.mono B4.out.size))
        have R5 := Lib.hid (GRuns.of_own rl_ln HNX.out o5)
        clear o5 b5
        go_wp2
        go_ret2
        exact ⟨v5, rfl, by rw [hYs.out]; exact R5.out, B5.out⟩
  · have h0' : (ea == 0) = false := by simpa using h0
    have hEr : er = ea := by rw [HE.out, if_neg h0]
    subst hEr
    have hYs : Hid (Y = []) := Lib.hid (by rw [HS.out, if_neg h0])
    go_wp2
    go_ret2
    exact ⟨_, rfl, by rw [hYs.out]; exact GRuns.nil_ _ _ _, B1.out⟩
end Go.Proofs.YtbbkkoeipkigdaaDoor
