/- errataref10.New, Edges, Next: the document's automaton, its edges, where a rune leads. -/
import Derived.Test.YtljaibhhkjapmaaDoorKVisV
import Derived.Test.YtljaibhhkjapmaaDoorPk15
namespace Go.Proofs.YtljaibhhkjapmaaDoor
open Go.RowKit Go.Shelf
attribute [local go_sem] Oper.semAt_some
set_option linter.unusedSimpArgs false
set_option linter.unusedVariables false

/-- All states as the document tells them. -/
def tldS (W : Rst) : List (StD Int) := (staQ W).map (stF (staQ W))
theorem tldS_len (W : Rst) : (tldS W).length = (staQ W).length := List.length_map _
theorem tldS_at {W : Rst} {i : Nat} {x : Rst} (h : (staQ W)[i]? = some x) : (tldS W)[i]? = some (stF (staQ W) x) := by rw [tldS, List.getElem?_map, h]; rfl
theorem tldS_vis (W : Rst) : visS (ltrs W + 1) [] W = (tldS W, 0) := by
  obtain ⟨h1, h2⟩ := visS_all W (ltrs W + 1) (by omega)
  exact Prod.ext h1 h2
theorem stF_out (Q : List Rst) (x : Rst) : (stF Q x).2.2 = outE Q x := by
  unfold stF outE edE
  rw [List.map_map]
  rfl
/-- The rests of words as they are gathered. -/
theorem rnW_take {l : List Wrd} {k : Nat} {x : Wrd} (h : l[k]? = some x) : rnW (l.take (k + 1)) = rnW (l.take k) ++ [rnK x.1] := by
  rw [List.take_add_one, h, rnW, List.map_append]; rfl
set_option maxRecDepth 100000 in
set_option maxHeartbeats 8000000 in
theorem rnew_any (u : Value) (l : List Wrd) (hn : wisS l = 0) (w : World) (hu : WRuns w u l) (hl : l.length ≤ 2000000) (hsz : ∀ x ∈ l, x.1.size * 4 ≤ 140737488355328) (hlt : ltrs (rnW l) ≤ 90000) :
    Calls Tryd.prog 14 #[u] w fun e w' => ∃ A c T, e = .returned (.slice A (tldS (rnW l)).length c) ∧ StRow w' w.heap.size (.slice A (tldS (rnW l)).length c) (tldS (rnW l)) T (fun _ => False) ∧ Below w.heap.size w w' := by
  obtain ⟨A, c, eu⟩ := hu.slice
  obtain ⟨n, hnl⟩ : ∃ z, l.length = z := ⟨_, rfl⟩
  rw [hnl] at eu hl
  subst eu
  obtain ⟨n1, hn1⟩ : ∃ z, w.heap.size = z := ⟨_, rfl⟩
  have hvl : ∀ x ∈ l, Lib.validD x.1.data.toList = true := fun x hx => wchk_valid (wall_zero.1 (wisS_facts hn).1 x hx)
  have hall : rnW (l.take n) = rnW l := by rw [List.take_of_length_le (by omega)]
  have hlen : (visS (ltrs (rnW l) + 1) [] (rnW l)).1.length ≤ 100000 := by
    rw [tldS_vis]
    show (tldS (rnW l)).length ≤ _
    rw [tldS_len]
    have := staQ_most (rnW l)
    omega
  have hvis := visit_any (ltrs (rnW l) + 1)
  obtain ⟨S, hS⟩ : ∃ z, tldS (rnW l) = z := ⟨_, rfl⟩
  obtain ⟨M, hM⟩ : ∃ z, S.length = z := ⟨_, rfl⟩
  rw [hS, hM]
  have HS := Lib.hid hS; have HM := Lib.hid hM
  clear hS hM
  have HU := Lib.hid hu; have HN := Lib.hid hnl; have HN1 := Lib.hid hn1; have HVL := Lib.hid hvl; have HALL := Lib.hid hall; have HLEN := Lib.hid hlen; have HVIS := Lib.hid hvis; have HSZ := Lib.hid hsz
  clear hu hnl hn1 hvl hall hlen hvis hsz hlt hn
  go_enter Tryd.func14, Tryd.ntmps14
  go_wp2
  go_loopw [3, 12] (fun s3 s12 wr => ∃ (k : Nat) (Av : Option Addr) (cv : Nat) (T : List SlV), s3 = .slice Av k cv ∧ s12 = .int .i64 (k : Int) ∧ k ≤ n ∧ Hid (T.length = k) ∧ Hid (wr.ownsRow n1 84 1 (.slice Av k cv) k (gCells slCell T)) ∧
    Hid (∀ (i : Nat) (t : SlV) (x : List Int), T[i]? = some t → (rnW (l.take k))[i]? = some x → Runs wr (slv t) x ∧ Apt (slv t) (fun i => (Value.slice Av k cv).ownBlock = some i)) ∧ Hid (Below n1 w wr)) (fun _ s12 _ => n - (RowKit.intOf s12).toNat)
  case atStart => exact ⟨0, none, 0, [], rfl, rfl, Nat.zero_le _, Lib.hid rfl, Lib.hid (World.ownsRow_nil _ _ _ _), Lib.hid (fun i t x h => by simp at h), Lib.hid (Below.refl _ _)⟩
  case round =>
    obtain ⟨k, Av, cv, T, rfl, rfl, hkn, HT, HR, HE, HB⟩ := hrel
    have hn1w : n1 ≤ wr.heap.size := by have := HB.out.size; have := HN1.out; omega
    by_cases hj : k < n
    · have k1 : (k : Int) < (n : Int) := by omega
      obtain ⟨⟨p1, p2⟩, hp⟩ : ∃ p, l[k]? = some p := ⟨_, List.getElem?_eq_getElem (by rw [HN.out]; exact hj)⟩
      have hbw : Below w.heap.size w wr := by rw [HN1.out]; exact HB.out
      obtain ⟨b, o, rfl, _, hc⟩ := (HU.out.below hbw).cells HN.out (by omega)
      obtain ⟨g0, g1⟩ := wrd_cells hc hp
      simp only at g0 g1
      have hmem := List.mem_of_getElem? hp
      have hpv := HVL.out _ hmem
      simp only at hpv
      have hal := bel_one wr (.cells #[.string p1, .int .i64 p2] 72)
      obtain ⟨c0, c1⟩ := cells2_new wr (.string p1) (.int .i64 p2) 72
      have hst := rnW_take hp
      simp only at hst
      obtain ⟨W1, hW1⟩ : ∃ z, wr.alloc (.cells #[.string p1, .int .i64 p2] 72) = z := ⟨_, rfl⟩
      obtain ⟨B, hB⟩ : ∃ z, wr.heap.size = z := ⟨_, rfl⟩
      rw [hW1] at hal c0 c1
      rw [hB] at c0 c1
      have hcd := refDecode_any p1 W1 (HSZ.out _ hmem)
      unfold DecPost at hcd
      rw [hpv] at hcd
      simp only [if_true] at hcd
      have HCD := Lib.hid hcd; have HW1 := Lib.hid hW1; have HBB := Lib.hid hB; have HAL := Lib.hid hal; have HST := Lib.hid hst; have HN1W := Lib.hid hn1w
      clear hc hp hmem hpv hal hst hW1 hB hcd hbw hn1w
      go_wp2_with fail
      rw [HW1.out, HBB.out]
      refine HCD.out.mono ?_
      rintro e w2 ⟨v2, rfl, ho2, b2⟩
      have hbr : Below wr.heap.size wr w2 := HAL.out.trans (b2.mono HAL.out.size)
      obtain ⟨A2, c2, e2⟩ := z_own_slice ho2
      subst e2
      have hro2 : Runs w2 (.slice A2 (items p1.data.toList).length c2) (rnK p1) := Runs.of_own ho2
      have hrow2 := z_own_below HR.out hbr
      have hap2 : Apt (.slice A2 (items p1.data.toList).length c2) (fun i => (Value.slice Av k cv).ownBlock = some i) := own_apt_lt ho2 (fun i hi => Nat.lt_of_lt_of_le (own_lt' HR.out i hi) HAL.out.size)
      obtain ⟨np, hnp⟩ : ∃ z, (items p1.data.toList).length = z := ⟨_, rfl⟩
      rw [hnp] at hro2 hap2
      obtain ⟨v9, w9, hrun, hown9, hg9, hr9⟩ := append_one (P := Tryd.prog) (enc := slCell) sl_ln sl_one info_sl rfl (by decide) (by decide) Tryd.underlying34 w2 n1 _ k _ hrow2 (A2, np, c2) (Nat.le_trans HN1W.out hbr.size) (by omega)
      obtain ⟨A9, c9, e9⟩ := z_own_slice hown9
      subst e9
      rw [← gCells_snoc] at hown9
      change (Builtin.append_ _ _ _).run _ (w2.alloc (.cells #[.slice A2 np c2] 84)) = _ at hrun
      have hg29 : w2.grownBy w9 (Value.slice Av k cv).ownBlock := (World.grownBy_alloc _ _ _).trans hg9
      have hon : XOn w2 (fun i => (Value.slice Av k cv).ownBlock = some i) (fun i => (Value.slice A9 (k + 1) c9).ownBlock = some i) := fun i hi => by
        rcases hr9 with h | h
        · exact .inl (h ▸ hi)
        · rw [h] at hi; cases hi; exact .inr (by omega)
      have hb9 : Below n1 w w9 := (HB.out.trans (hbr.mono HN1W.out)).grown hg29 (Nat.le_trans HN1W.out hbr.size) (own_block hrow2)
      have HE9 : Hid (∀ (i : Nat) (t2 : SlV) (y : List Int), (T ++ [(A2, np, c2)])[i]? = some t2 → (rnW (l.take (k + 1)))[i]? = some y → Runs w9 (slv t2) y ∧ Apt (slv t2) (fun i => (Value.slice A9 (k + 1) c9).ownBlock = some i)) := Lib.hid (fun i t2 y h1 h2 => by
        have hrl : (rnW (l.take k)).length = k := by rw [rnW, List.length_map, List.length_take, HN.out]; omega
        rw [HST.out] at h2
        by_cases hi : i < k
        · rw [List.getElem?_append_left (by rw [HT.out]; exact hi)] at h1
          rw [List.getElem?_append_left (by rw [hrl]; exact hi)] at h2
          obtain ⟨h3, h4⟩ := HE.out i t2 y h1 h2
          have h5 := h3.below hbr
          exact ⟨h5.aprt h4 hg29 (fun i e => e), h5.apton h4 hon⟩
        · have hi2 : i = k := by
            have := (List.getElem?_eq_some_iff.1 h1).1
            rw [List.length_append, HT.out] at this
            simp at this
            omega
          subst hi2
          rw [List.getElem?_append_right (by rw [HT.out]; exact Nat.le_refl _), HT.out, Nat.sub_self] at h1
          rw [List.getElem?_append_right (by rw [hrl]; exact Nat.le_refl _), hrl, Nat.sub_self] at h2
          cases h1
          cases h2
          exact ⟨hro2.aprt hap2 hg29 (fun i e => e), hro2.apton hap2 hon⟩)
      have HRUN := Lib.hid hrun; have HOWN := Lib.hid hown9; have HB9 := Lib.hid hb9
      rw [hnp]
      clear ho2 b2 hbr hro2 hrow2 hap2 hnp hrun hown9 hg9 hr9 hg29 hon hb9
      go_wp2_with (at_builtin; refine wpList_append_run (.tmp 22) (.tmp 24) 34 _ _ _ _ HRUN.out rfl rfl rfl rfl ?_)
      exact ⟨⟨k + 1, A9, c9, _, rfl, by go_num, by omega, Lib.hid (by rw [List.length_append, HT.out]; rfl), HOWN, HE9, HB9⟩, by simp [RowKit.intOf]; omega⟩
    · obtain rfl : k = n := by omega
      have hbw : Below w.heap.size w wr := by rw [HN1.out]; exact HB.out
      have hrl : (rnW l).length = k := by rw [rnW, List.length_map, HN.out]
      have hE := HE.out
      rw [HALL.out] at hE
      have hrs : RsX wr (.slice Av k cv) (rnW l) (fun _ => False) := RsX.of_own HT.out hrl HR.out (fun i h => h.elim) (fun i t x h1 h2 => ⟨(hE i t x h1 h2).1, (hE i t x h1 h2).2.less (fun i h => h.elim)⟩)
      have hcv := HVIS.out wr w.heap.size none 0 0 (.slice Av k cv) [] [] (rnW l) (fun _ => False) rfl (StRow.nil _ _ _) (hrs.less (fun i hi => by
        rcases hi with hi | hi
        · cases hi
        · exact hi.elim)) hbw.size (fun i h => h.elim) (by omega) HLEN.out (by rw [hrl]; exact hl)
      unfold VisPost at hcv
      rw [tldS_vis, HS.out] at hcv
      simp only [HM.out] at hcv
      have HCV := Lib.hid hcv
      clear hE hrs hcv hrl
      go_wp2_with fail
      refine HCV.out.mono ?_
      rintro e w2 ⟨A6, c6, T6, rfl, h6, hg6, hr6⟩
      have hb6 : Below w.heap.size w w2 := hbw.trans ((show Below wr.heap.size wr w2 from ⟨hg6.os, hg6.tape, hg6.output, hg6.size, fun i hi => hg6.block i hi (by simp [Value.ownBlock])⟩).mono hbw.size)
      have HB6 := Lib.hid hb6
      have h6' : StRow w2 w.heap.size (.slice A6 M c6) S T6 (fun _ => False) := h6
      have H6 := Lib.hid h6'
      clear hb6 h6 h6' hg6 hr6 hbw
      go_wp2
      go_ret
      exact ⟨A6, c6, T6, rfl, H6.out, HB6.out⟩
end Go.Proofs.YtljaibhhkjapmaaDoor
