/- errataref08.At: the document's answer. -/
import Derived.Test.YtbbkkoeipkigdaaDoorPk12
namespace Go.Proofs.YtbbkkoeipkigdaaDoor
open Go.RowKit Go.Shelf
set_option linter.unusedSimpArgs false
set_option linter.unusedVariables false

theorem hits_bound {F : List (List Int)} {l : List Int} (hF : F.length ≤ 4096) (hl : l.length ≤ 64) : (hitsP F l).length ≤ 266240 := by
  have h1 : (hitsTo (atP F l) (l.length + 1)).length ≤ (l.length + 1) * 4096 := hitsTo_len _ 4096 (fun b => Nat.le_trans (atP_len _ _ _) hF) _
  have h3 : (l.length + 1) * 4096 ≤ 65 * 4096 := Nat.mul_le_mul_right _ (by omega)
  exact Nat.le_trans h1 (Nat.le_trans h3 (by decide))
/-- Of the first hits those of a place. -/
def filTo (H : List (Nat × Nat)) (k j : Nat) : List Nat := ((H.take j).filter (fun z => z.1 == k)).map (·.2)
set_option maxRecDepth 100000 in
set_option maxHeartbeats 8000000 in
theorem refAt_any (u : Value) (L : List Blk) (s : ByteArray) (a : Int) (w : World) (hs : s.size * 4 ≤ 140737488355328) (hu : BRuns w u L) (hl : L.length ≤ 4096) (hz : szL L) (hf : ∀ b ∈ L, Lib.validD b.1.data.toList = true ∧ (items b.1.data.toList).length ≤ 3) :
    Calls Tryd.prog 18 #[u, .string s, .int .i64 a] w fun e w' => ∃ v, e = .returned (.tuple #[v, .int .i64 (atE s.data.toList a)]) ∧ NRuns w' v (atS L s.data.toList a) ∧ Below w.heap.size w w' := by
  have CH := Lib.hid (refHits_any u L s w hs hu hl hz hf)
  have CD := Lib.hid (fun w => (refDecode_any s w hs).mono fun e w' h => dec_runs h)
  have hat : atE s.data.toList a = if rdE s.data.toList = 0 then (if a < 0 ∨ ((items s.data.toList).length : Int) < a then 2 else 0) else rdE s.data.toList := rfl
  have hht : atS L s.data.toList a = if atE s.data.toList a = 0 then atP (frs L) (items s.data.toList) a.toNat else [] := rfl
  have hhh : htS L s.data.toList = if rdE s.data.toList = 0 then hitsP (frs L) (items s.data.toList) else [] := rfl
  have hok : rdE s.data.toList = 0 → decRunes s.data.toList = items s.data.toList ∧ (items s.data.toList).length ≤ 64 ∧ decErr s.data.toList = 0 := fun h => ⟨(rdE_ok h).2.2.1, (rdE_ok h).2.1, (rdE_ok h).2.2.2⟩
  obtain ⟨A0, c0, e⟩ := hu.slice
  subst e
  obtain ⟨er, her⟩ : ∃ z, rdE s.data.toList = z := ⟨_, rfl⟩
  obtain ⟨ea, hea⟩ : ∃ z, atE s.data.toList a = z := ⟨_, rfl⟩
  obtain ⟨Y, hY⟩ : ∃ z, atS L s.data.toList a = z := ⟨_, rfl⟩
  obtain ⟨H, hH⟩ : ∃ z, htS L s.data.toList = z := ⟨_, rfl⟩
  obtain ⟨x, hx⟩ : ∃ z, items s.data.toList = z := ⟨_, rfl⟩
  obtain ⟨N, hN⟩ : ∃ z, L.length = z := ⟨_, rfl⟩
  rw [hY, hea, hx] at hht
  rw [hea, her, hx] at hat
  rw [hH, her, hx] at hhh
  rw [her, hx] at hok
  rw [hea, hY]
  rw [her, hH] at CH
  rw [hN] at CH hl ⊢
  have HAT := Lib.hid hat; have HHT := Lib.hid hht; have HHH := Lib.hid hhh; have HOK := Lib.hid hok; have HN := Lib.hid hN
  clear her hea hY hH hx hat hht hhh hok hs hu hz hf hN
  go_enter Tryd.func18, Tryd.ntmps18
  go_wp2_with fail
  refine CH.out.mono ?_
  rintro e w1 ⟨v1, rfl, hr, hb⟩
  obtain ⟨Ah, ch, rfl⟩ := GRuns.slice hr
  obtain ⟨q, hq⟩ : ∃ z, H.length = z := ⟨_, rfl⟩
  rw [hq] at hr ⊢
  have HB := Lib.hid hb; have HR := Lib.hid hr; have HQ := Lib.hid hq
  clear hb hr CH hq
  by_cases h0 : er = 0
  · subst h0
    obtain ⟨hdx, hl64, hde⟩ := HOK.out (by first | rfl | trivial)
    have hat1 : ea = if a < 0 ∨ (x.length : Int) < a then 2 else 0 := by rw [HAT.out, if_pos (by first | rfl | trivial)]
    have hH1 : H = hitsP (frs L) x := by rw [HHH.out, if_pos (by first | rfl | trivial)]
    obtain ⟨n, hn⟩ : ∃ z, x.length = z := ⟨_, rfl⟩
    rw [hn] at hl64 hat1
    have cd := CD.out w1
    rw [hdx, hde, hn] at cd
    have HC := Lib.hid cd; have HAT1 := Lib.hid hat1; have HH1 := Lib.hid hH1; have HNx := Lib.hid hn
    clear cd hat1 hH1 hn hdx hde HOK HAT HHH CD
    go_wp2_with fail
    refine HC.out.mono ?_
    rintro e w2 ⟨A2, c2, rfl, hr2, hb2⟩
    have HB2 := Lib.hid (HB.out.trans (hb2.mono HB.out.size))
    have HR2 := Lib.hid (HR.out.below hb2)
    clear hr2 hb2 HC HR
    by_cases ha0 : a < 0
    · have hea : Hid (ea = 2 ∧ Y = []) := Lib.hid (by
        have h1 : ea = 2 := by rw [HAT1.out, if_pos (.inl ha0)]
        exact ⟨h1, by rw [HHT.out, h1]; rfl⟩)
      go_wp2
      go_ret2
      exact ⟨_, by rw [hea.out.1]; rfl, by rw [hea.out.2]; exact GRuns.nil_ _ _ _, HB2.out⟩
    by_cases ha1 : (n : Int) < a
    · have hea : Hid (ea = 2 ∧ Y = []) := Lib.hid (by
        have h1 : ea = 2 := by rw [HAT1.out, if_pos (.inr ha1)]
        exact ⟨h1, by rw [HHT.out, h1]; rfl⟩)
      go_wp2
      go_ret2
      exact ⟨_, by rw [hea.out.1]; rfl, by rw [hea.out.2]; exact GRuns.nil_ _ _ _, HB2.out⟩
    obtain ⟨k, rfl⟩ : ∃ k : Nat, a = (k : Int) := ⟨a.toNat, by omega⟩
    have hea : Hid (ea = 0 ∧ Y = (H.filter (fun z => z.1 == k)).map (·.2)) := Lib.hid (by
      have h1 : ea = 0 := by rw [HAT1.out, if_neg (by omega)]
      refine ⟨h1, ?_⟩
      rw [HHT.out, h1, HH1.out, hits_place _ _ (by rw [HNx.out]; omega)]
      rfl)
    have hql : q ≤ 266240 := by
      rw [← HQ.out, HH1.out]
      exact hits_bound (by rw [frs_len, HN.out]; exact hl) (by rw [HNx.out]; omega)
    have d1 : decide ((k : Int) < 0) = false := by simp
    have d2 : decide ((n : Int) < (k : Int)) = false := by simp; omega
    have d3 : decide (n < k) = false := by simp; omega
    clear HAT1 HHT HH1
    go_wp2
    go_loopw [12, 39] (fun s12 s39 wr => ∃ j : Nat, j ≤ q ∧ s39 = .int .i64 (j : Int) ∧ Hid (wr.ownsRow w2.heap.size 3 1 s12 (filTo H k j).length (gCells numCell (filTo H k j))) ∧ Hid (Below w2.heap.size w2 wr)) (fun _ s39 _ => q - (RowKit.intOf s39).toNat)
    case atStart => exact ⟨0, Nat.zero_le _, rfl, Lib.hid (World.ownsRow_nil _ _ _ _), Lib.hid (Below.refl _ _)⟩
    case round =>
      obtain ⟨j, hj, rfl, HO, BW⟩ := hrel
      by_cases hj1 : j < q
      · have j1 : (j : Int) < (q : Int) := by omega
        obtain ⟨⟨y1, y2⟩, hy⟩ : ∃ y, H[j]? = some y := ⟨_, List.getElem?_eq_getElem (by rw [HQ.out]; exact hj1)⟩
        obtain ⟨bb, oo, rfl, _, hcc⟩ := (HR2.out.below BW.out).cells HQ.out (by omega)
        have g0 := hcc j _ hy 0 _ rfl
        have g1 := hcc j _ hy 1 _ rfl
        rw [Nat.add_zero] at g0
        simp only at g0 g1
        have hlj : (filTo H k j).length ≤ j := by
          unfold filTo
          rw [List.length_map]
          have h1 := List.length_filter_le (fun z : Nat × Nat => z.1 == k) (H.take j)
          rw [List.length_take] at h1
          omega
        have hst : filTo H k (j + 1) = filTo H k j ++ if y1 = k then [y2] else [] := by
          unfold filTo
          rw [List.take_add_one, hy, List.filter_append, List.map_append]
          congr 1
          by_cases e : y1 = k
          · simp [e]
          · simp [e]
        have hal : Below w2.heap.size w2 (wr.alloc (.cells #[.int .i64 (y1 : Int), .int .i64 (y2 : Int)] 79)) := BW.out.alloc BW.out.size _
        have hoa := own_below HO.out ((Below.refl wr.heap.size wr).alloc (Nat.le_refl _) (.cells #[.int .i64 (y1 : Int), .int .i64 (y2 : Int)] 79))
        have HST := Lib.hid hst; have HAL := Lib.hid hal; have HOA := Lib.hid hoa
        clear hcc hy hst hal hoa
        by_cases e : y1 = k
        · have eq1 : ((y1 : Int) == (k : Int)) = true := by simp [e]
          have hn := heap_alloc_new wr (.cells #[.int .i64 (y1 : Int), .int .i64 (y2 : Int)] 79)
          obtain ⟨v7, w7, hrun7, ho7, hb7⟩ := push_num HOA.out HAL.out.size (by omega) y2
          rw [World.size_alloc] at hrun7
          have e8 := HST.out
          rw [if_pos e] at e8
          have e10 := congrArg List.length e8
          rw [List.length_append] at e10
          rw [← e8] at ho7
          have HO7 : Hid (w7.ownsRow w2.heap.size 3 1 v7 (filTo H k (j + 1)).length (gCells numCell (filTo H k (j + 1)))) := Lib.hid (by rw [e10]; exact ho7)
          have HB7 := Lib.hid (HAL.out.trans hb7)
          have H7 := Lib.hid hrun7
          clear hrun7 ho7 hb7 e8 e10 hn e
          go_wp2_with (at_builtin; refine wpList_append_run (.tmp 47) (.tmp 50) 38 _ _ _ _ H7.out rfl rfl rfl rfl ?_)
          exact ⟨⟨j + 1, by omega, by go_num, HO7, HB7⟩, by simp [RowKit.intOf]; omega⟩
        · have eq1 : ((y1 : Int) == (k : Int)) = false := by simp; omega
          have HO7 : Hid ((wr.alloc (.cells #[.int .i64 (y1 : Int), .int .i64 (y2 : Int)] 79)).ownsRow w2.heap.size 3 1 u12 (filTo H k (j + 1)).length (gCells numCell (filTo H k (j + 1)))) := Lib.hid (by
            rw [HST.out, if_neg e, List.append_nil]; exact HOA.out)
          go_wp2
          exact ⟨⟨j + 1, by omega, by go_num, HO7, HAL⟩, by simp [RowKit.intOf]; omega⟩
      · obtain rfl : j = q := by omega
        have HE : Hid (NRuns wr u12 Y) := Lib.hid (by
          rw [hea.out.2]
          have h1 := HO.out
          unfold filTo at h1
          rw [List.take_of_length_le (by rw [HQ.out]; exact Nat.le_refl _)] at h1
          exact GRuns.of_own (enc := numCell) (k := 1) (fun _ => rfl) rfl h1)
        go_wp2
        go_ret2
        exact ⟨_, by rw [hea.out.1]; rfl, HE.out, HB2.out.trans (BW.out.mono HB2.out.size)⟩
  · have hne : (er != 0) = true := by simpa using h0
    have hYe : Hid (ea = er ∧ Y = []) := Lib.hid (by
      have h1 : ea = er := by rw [HAT.out, if_neg h0]
      exact ⟨h1, by rw [HHT.out, h1, if_neg h0]⟩)
    go_wp2
    go_ret2
    exact ⟨_, by rw [hYe.out.1]; rfl, by rw [hYe.out.2]; exact GRuns.nil_ _ _ _, HB.out⟩
end Go.Proofs.YtbbkkoeipkigdaaDoor
