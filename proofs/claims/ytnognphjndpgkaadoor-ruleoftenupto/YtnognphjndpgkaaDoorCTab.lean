/- errataref06.Table: blocks, each once, in order, counted, or why they may not be. -/
import Derived.Test.YtnognphjndpgkaaDoorPk7
namespace Go.Proofs.YtnognphjndpgkaaDoor
open Go.RowKit Go.Shelf
set_option linter.unusedSimpArgs false
set_option linter.unusedVariables false

set_option maxRecDepth 100000 in
set_option maxHeartbeats 8000000 in
theorem refTable_wide (u : Value) (l : List Blk) (w : World) (hu : BRuns w u l) (hl : l.length ≤ 1000000) (hz : ∀ b ∈ l, b.1.size ≤ 2000000 ∧ b.2.1.size ≤ 2000000) :
    Calls Tryd.prog 23 #[u] w fun e w' => ∃ v, e = .returned (.tuple #[v, .int .i64 (tabE l)]) ∧ BRuns w' v (tabS l) ∧ Below w.heap.size w w' := by
  obtain ⟨A, c, e⟩ := hu.slice
  subst e
  have HU := Lib.hid hu; clear hu
  have cg := fun w hu hok => refGathered_any (.slice A l.length c) l w hu hl hok
  have cs := fun w hu hok => refSum_any (.slice A l.length c) l w hu (by omega) hok
  obtain ⟨n, hn⟩ : ∃ n, l.length = n := ⟨_, rfl⟩
  obtain ⟨gm, hgm⟩ : ∃ z, (gat l).length = z := ⟨_, rfl⟩
  obtain ⟨g, hg⟩ : ∃ z, gat l = z := ⟨_, rfl⟩
  obtain ⟨sN, hsN⟩ : ∃ z, sumN l = z := ⟨_, rfl⟩
  have hglen : gm ≤ n := by rw [← hgm, ← hn]; exact gat_len l
  have hT : tabE l = if chkAll l = 0 then (if 4096 < gm ∨ 1073741824 < sN then 6 else 0) else chkAll l := by rw [tabE, hgm, hsN]
  have hS : tabS l = if tabE l = 0 then g else [] := by rw [tabS, hg]
  obtain ⟨res, hres⟩ : ∃ r, tabE l = r := ⟨_, rfl⟩
  rw [hres] at hT hS ⊢
  rw [hg] at hgm
  simp only [hn, hg, hgm] at cg
  simp only [hn, hsN] at cs
  obtain ⟨X, hX⟩ : ∃ X, tabS l = X := ⟨_, rfl⟩
  rw [hX] at hS ⊢
  have HX := Lib.hid hS
  have HT := Lib.hid hT; clear hT hres hS hX
  rw [hn] at hl HU ⊢
  have HN := Lib.hid hn; have HGM := Lib.hid hgm; clear hn hg hgm hsN
  have HZ := Lib.hid hz; clear hz
  have CG := Lib.hid cg; have CS := Lib.hid cs; clear cg cs
  have C5 := Lib.hid refCheck5_any
  go_enter Tryd.func23, Tryd.ntmps23
  go_wp2
  go_loopw [10] (fun s10 wr => ∃ k : Nat, k ≤ n ∧ s10 = .int .i64 k ∧ Hid (chkAll (l.take k) = 0) ∧ Hid (Below w.heap.size w wr)) (fun s10 _ => n - (RowKit.intOf s10).toNat)
  case atStart => exact ⟨0, Nat.zero_le _, rfl, Lib.hid rfl, Lib.hid (Below.refl _ _)⟩
  case round =>
    obtain ⟨k, hkn, rfl, HC, BW⟩ := hrel
    by_cases hk : k < n
    · have k1 : (k : Int) < (n : Int) := by omega
      obtain ⟨⟨p1, p2, p3⟩, hp⟩ : ∃ p, l[k]? = some p := ⟨_, List.getElem?_eq_getElem (by rw [HN.out]; exact hk)⟩
      obtain ⟨b, o, rfl, _, hc⟩ := (HU.out.below BW.out).cells HN.out (by omega)
      obtain ⟨g0, g1, g2⟩ := blk_cells hc hp
      simp only at g0 g1 g2
      have hz1 := HZ.out _ (List.mem_of_getElem? hp)
      have hch := chkAll_take k _ hp HC.out
      simp only at hz1
      obtain ⟨er, her⟩ : ∃ z, chkS (p1, p2, p3) = z := ⟨_, rfl⟩
      rw [her] at hch
      have HCH := Lib.hid hch
      have hal : Hid (Below w.heap.size w (wr.alloc (.cells #[.string p1, .string p2, .int .i64 p3] 40))) := Lib.hid (BW.out.alloc BW.out.size _)
      have c5 := C5.out p1 p2 p3 (wr.alloc (.cells #[.string p1, .string p2, .int .i64 p3] 40)) (by omega) (by omega)
      rw [her] at c5
      have CC := Lib.hid c5
      clear hc hp hch c5 her
      go_wp2_with fail
      refine CC.out.mono ?_
      rintro e w5 ⟨rfl, b5⟩
      have B5 : Hid (Below w.heap.size w w5) := Lib.hid (hal.out.trans (b5.mono hal.out.size))
      clear b5
      by_cases h0 : er = 0
      · subst h0
        go_wp2
        exact ⟨⟨k + 1, by omega, by go_num, Lib.hid (HCH.out.1 (by first | rfl | trivial)), B5⟩, by simp [RowKit.intOf]; omega⟩
      · have h0' : (er == 0) = false := by simpa using h0
        have hr : Hid (res = er) := Lib.hid (by rw [HT.out, if_neg (by rw [HCH.out.2 h0]; exact h0), HCH.out.2 h0])
        go_wp2
        go_ret2
        exact ⟨_, by rw [hr.out]; rfl, by rw [HX.out, if_neg (by rw [hr.out]; exact h0)]; exact GRuns.nil_ _ _ _, B5.out⟩
    · obtain rfl : k = n := by omega
      have HC0 : Hid (chkAll l = 0) := Lib.hid (by have := HC.out; rwa [← HN.out, List.take_length] at this)
      clear HC
      have OK := Lib.hid (okN_of HC0.out)
      have U2 := Lib.hid (HU.out.below BW.out)
      go_wp2_with fail
      refine (CG.out _ U2.out OK.out).mono ?_
      rintro e w5 ⟨v, rfl, ho, b5⟩
      have gR := GRuns.of_own blk_ln HGM.out ho
      obtain ⟨A', c', hv⟩ := gR.slice
      rw [HGM.out] at hv
      subst hv
      have GR := Lib.hid gR; clear gR ho
      have U5 := Lib.hid (U2.out.below b5)
      have B5 : Hid (Below w.heap.size w w5) := Lib.hid (BW.out.trans (b5.mono BW.out.size))
      clear b5
      by_cases hbig : 4096 < gm
      · have hb1 : (4096 : Int) < (gm : Int) := by omega
        have hr : Hid (res = 6) := Lib.hid (by rw [HT.out, if_pos HC0.out, if_pos (.inl hbig)])
        go_wp2
        go_ret2
        exact ⟨_, by rw [hr.out]; rfl, by rw [HX.out, if_neg (by rw [hr.out]; decide)]; exact GRuns.nil_ _ _ _, B5.out⟩
      · have hb1 : ¬ (4096 : Int) < (gm : Int) := by omega
        go_wp2_with fail
        refine (CS.out _ U5.out OK.out).mono ?_
        rintro e w6 ⟨rfl, b6⟩
        have B6 : Hid (Below w.heap.size w w6) := Lib.hid (B5.out.trans (b6.mono B5.out.size))
        have G6 := Lib.hid (GR.out.below b6)
        clear b6
        by_cases hsum : 1073741824 < sN
        · have hr : Hid (res = 6) := Lib.hid (by rw [HT.out, if_pos HC0.out, if_pos (.inr hsum)])
          go_wp2
          go_ret2
          exact ⟨_, by rw [hr.out]; rfl, by rw [HX.out, if_neg (by rw [hr.out]; decide)]; exact GRuns.nil_ _ _ _, B6.out⟩
        · have hr : Hid (res = 0) := Lib.hid (by rw [HT.out, if_pos HC0.out, if_neg (by omega)])
          go_wp2
          go_ret2
          exact ⟨_, by rw [hr.out]; rfl, by rw [HX.out, if_pos hr.out]; exact G6.out, B6.out⟩
theorem refTable_any (u : Value) (l : List Blk) (w : World) (hu : BRuns w u l) (hl : l.length ≤ 10000) (hz : szB l) :
    Calls Tryd.prog 23 #[u] w fun e w' => ∃ v, e = .returned (.tuple #[v, .int .i64 (tabE l)]) ∧ BRuns w' v (tabS l) ∧ Below w.heap.size w w' :=
  refTable_wide u l w hu (by omega) (fun b hb => by have := hz b hb; omega)
end Go.Proofs.YtnognphjndpgkaaDoor
