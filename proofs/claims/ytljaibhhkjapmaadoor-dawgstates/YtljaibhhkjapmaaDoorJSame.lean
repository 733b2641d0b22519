/- The program's edges as the document's; the document's Same over edges that are the same. -/
import Derived.Test.YtljaibhhkjapmaaDoorPk16
import Derived.Test.YtljaibhhkjapmaaDoorPk4
namespace Go.Proofs.YtljaibhhkjapmaaDoor
open Go.RowKit Go.Shelf
attribute [local go_sem] Oper.semAt_some
set_option linter.unusedSimpArgs false
set_option linter.unusedVariables false

theorem info_re : (Tryd.prog.info? 98).map (fun i => (i.zero, i.size, i.bytes)) = some (some (.agg #[.int .i32 0, .int .i64 0]), 2, 16) := by kernel_rfl
set_option maxRecDepth 100000 in
set_option maxHeartbeats 8000000 in
theorem edges10_any (v : Value) (E : List OEd) (w : World) (hv : GRuns oeCell 2 w v E) (hl : E.length ≤ 6000000) : Calls Tryd.prog 22 #[v] w fun e w' => ∃ v', e = .returned v' ∧ GRuns oeCell 2 w' v' E ∧ Below w.heap.size w w' := by
  obtain ⟨A, c, ev⟩ := hv.slice
  obtain ⟨n, hn⟩ : ∃ z, E.length = z := ⟨_, rfl⟩
  rw [hn] at ev hl
  subst ev
  obtain ⟨n1, hn1⟩ : ∃ z, w.heap.size = z := ⟨_, rfl⟩
  have HG3 := Lib.hid hv; have HN := Lib.hid hn; have HN1 := Lib.hid hn1
  have hR0 : Hid (w.ownsRow n1 98 2 (.slice none 0 0) 0 (gCells oeCell (E.take 0))) := Lib.hid (World.ownsRow_nil _ _ _ _)
  clear hv hn hn1
  go_enter Tryd.func22, Tryd.ntmps22
  go_wp2
  go_loopw [3, 8] (fun s3 s8 wr => ∃ (j : Nat) (vo : Value), s3 = vo ∧ s8 = .int .i64 j ∧ j ≤ n ∧ Hid (wr.ownsRow n1 98 2 vo j (gCells oeCell (E.take j))) ∧ Hid (Below w.heap.size w wr)) (fun _ s8 _ => n - (RowKit.intOf s8).toNat)
  case atStart => exact ⟨0, _, rfl, rfl, Nat.zero_le _, hR0, Lib.hid (Below.refl _ _)⟩
  case round =>
    obtain ⟨j, vo, rfl, rfl, hjn, HR, HB⟩ := hrel
    by_cases hj : j < n
    · obtain ⟨⟨y1, y2⟩, hy⟩ : ∃ y, E[j]? = some y := ⟨_, List.getElem?_eq_getElem (by rw [HN.out]; exact hj)⟩
      obtain ⟨b, o, rfl, hlt, hc⟩ := (HG3.out.below HB.out).cells HN.out (by omega)
      have g0 := hc j _ hy 0 _ rfl
      have g1 := hc j _ hy 1 _ rfl
      simp only [Nat.add_zero] at g0 g1
      have i1 : (j : Int) < (n : Int) := by omega
      have hal := bel_one wr (.cells #[.int .i32 y1, .int .i64 (y2 : Int)] 97)
      obtain ⟨W1, hW1⟩ : ∃ z, wr.alloc (.cells #[.int .i32 y1, .int .i64 (y2 : Int)] 97) = z := ⟨_, rfl⟩
      have hbx := bx_new wr 97 #[.int .i32 y1, .int .i64 (y2 : Int)]
      obtain ⟨B, hB⟩ : ∃ z, wr.heap.size = z := ⟨_, rfl⟩
      have hn1W : n1 ≤ wr.heap.size := by rw [← HN1.out]; exact HB.out.size
      rw [hW1] at hal hbx
      rw [hB] at hbx
      have hr1 := z_own_below HR.out hal
      obtain ⟨v9, w9, hrun, hown9, hgr9, hblk9⟩ := append_one (P := Tryd.prog) oe_ln oe_one info_re rfl (by decide) (by decide) Tryd.underlying35 W1 n1 _ j _ hr1 (y1, y2) (Nat.le_trans hn1W hal.size) (by omega)
      have htk : E.take (j + 1) = E.take j ++ [(y1, y2)] := by rw [List.take_add_one, hy]; rfl
      have hown : Hid (w9.ownsRow n1 98 2 v9 (j + 1) (gCells oeCell (E.take (j + 1)))) := Lib.hid (by rw [htk, gCells_snoc]; exact hown9)
      have hbn : Below n1 w wr := by rw [← HN1.out]; exact HB.out
      have hb9 : Hid (Below w.heap.size w w9) := Lib.hid (by
        rw [HN1.out]
        exact (hbn.trans ((hal.trans ((bel_one W1 (.cells (oeCell (y1, y2)).toArray 98)).mono hal.size)).mono hn1W)).grown hgr9 (by simp; have := hal.size; omega) (fun r e => by
          rcases hr1.2 with ⟨e2, _⟩ | ⟨g, cap, cur, e2, hb, _⟩
          · rw [e2] at e; cases e
          · rw [e2] at e
            have : g = r := by simpa [Value.ownBlock] using e
            omega))
      obtain ⟨c0, c1⟩ := hbx.two
      have HRUN := Lib.hid hrun; have HW1 := Lib.hid hW1; have HBB := Lib.hid hB
      clear hc hy hlt hal hbx hr1 hn1W hrun hown9 hgr9 hblk9 htk hW1 hB HR HB hbn
      go_wp2_with (first
        | (rw [HW1.out, HBB.out])
        | (at_builtin; refine wpList_append_run (.tmp 12) (.tmp 14) 35 _ _ _ _ HRUN.out rfl rfl rfl rfl ?_))
      exact ⟨⟨j + 1, _, rfl, by go_num, by omega, hown, hb9⟩, by simp [RowKit.intOf]; omega⟩
    · obtain rfl : j = n := by omega
      have i1 : ¬ (j : Int) < (j : Int) := by omega
      have hEt : E.take j = E := List.take_of_length_le (by rw [HN.out]; exact Nat.le_refl _)
      rw [hEt] at HR
      have hfin := GRuns.of_own oe_ln HN.out HR.out
      have HF := Lib.hid hfin
      clear hfin hEt
      go_wp2
      go_ret
      exact ⟨_, rfl, HF.out, HB.out⟩
set_option maxRecDepth 100000 in
set_option maxHeartbeats 8000000 in
theorem refSame10_eq (u v : Value) (E : List OEd) (w : World) (hu : GRuns oeCell 2 w u E) (hv : GRuns oeCell 2 w v E) : Calls Tryd.prog 21 #[u, v] w fun e w' => e = .returned (.bool true) ∧ Below w.heap.size w w' := by
  obtain ⟨A, c, ev⟩ := hu.slice
  obtain ⟨A', c', ev'⟩ := hv.slice
  have hcp := gr_cap (show GRuns oeCell 2 w (.slice A E.length c) E by rw [← ev]; exact hu)
  obtain ⟨n, hn⟩ : ∃ z, E.length = z := ⟨_, rfl⟩
  rw [hn] at ev ev' hcp
  have hcn : n ≤ 9223372036854775807 := by have := hcp.1; have := hcp.2.1; unfold maxLen at this; omega
  subst ev ev'
  have HU := Lib.hid hu; have HV := Lib.hid hv; have HN := Lib.hid hn
  clear hu hv hn hcp
  go_enter Tryd.func21, Tryd.ntmps21
  go_wp2
  go_loopw [13] (fun s13 wr => ∃ j : Nat, s13 = .int .i64 (j : Int) ∧ j ≤ n ∧ Hid (Below w.heap.size w wr)) (fun s13 _ => n - (RowKit.intOf s13).toNat)
  case atStart => exact ⟨0, rfl, Nat.zero_le _, Lib.hid (Below.refl _ _)⟩
  case round =>
    obtain ⟨j, rfl, hjn, HB⟩ := hrel
    by_cases hj : j < n
    · obtain ⟨⟨y1, y2⟩, hy⟩ : ∃ y, E[j]? = some y := ⟨_, List.getElem?_eq_getElem (by rw [HN.out]; exact hj)⟩
      obtain ⟨b, o, rfl, hlt, hc⟩ := (HU.out.below HB.out).cells HN.out (by omega)
      obtain ⟨b', o', rfl, hlt', hc'⟩ := (HV.out.below HB.out).cells HN.out (by omega)
      have g0 := hc j _ hy 0 _ rfl
      have g1 := hc j _ hy 1 _ rfl
      have q0 := hc' j _ hy 0 _ rfl
      have q1 := hc' j _ hy 1 _ rfl
      simp only [Nat.add_zero] at g0 g1 q0 q1
      have i1 : (j : Int) < (n : Int) := by omega
      have HBD : Hid (∀ k, Below w.heap.size w (wr.drewN k)) := Lib.hid (fun k => HB.out.trans ((bel_drewN _ _).mono HB.out.size))
      clear hc hc' hy hlt hlt' HB
      go_wp2
      go_quiet (fail)
      go_wp2
      exact ⟨⟨j + 1, by go_num, by omega, Lib.hid (HBD.out _)⟩, by simp [RowKit.intOf]; omega⟩
    · obtain rfl : j = n := by omega
      have i1 : ¬ (j : Int) < (j : Int) := by omega
      go_wp2
      go_ret
      exact ⟨rfl, HB.out⟩
end Go.Proofs.YtljaibhhkjapmaaDoor
