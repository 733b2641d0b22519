/- Texts that several proofs of this seat share, one behind the other: NAlone NText NSta Frame GArg QClone VArg. -/
import Derived.Test.YtbbkkoeipkigdaaDoorPk13
import Derived.Test.YtbbkkoeipkigdaaDoorPk5
import Derived.Test.YtbbkkoeipkigdaaDoorPk12
import Derived.Test.YtbbkkoeipkigdaaDoorPk3
import Derived.Test.YtbbkkoeipkigdaaDoorCards
import Derived.Test.YtbbkkoeipkigdaaDoorTie
import Derived.OpenShut
import Derived.Deep.DeepHandedRow
import Derived.Lib.LaidTab
import Derived.Lib.LaidU8T
import Derived.Carry
import Derived.Test.YtbbkkoeipkigdaaDoorRows
import Derived.Lib.SmallJoins
import Derived.SliceStrings
import Derived.Deep.Slices
import Derived.ChangeArms
import Derived.Test.YtbbkkoeipkigdaaDoorPk8
import Derived.Test.YtbbkkoeipkigdaaDoorPk2
import Derived.Lib.SliceRun
/- MatchAlone, walked over what match's functions answer. -/
namespace Go.Proofs.YtbbkkoeipkigdaaDoor
open Go.RowKit Go.Shelf
set_option linter.unusedSimpArgs false
set_option linter.unusedVariables false

theorem ris_one {L : List Blk} (h : risS L = 0) {b : Blk} (hb : b ∈ L) : risS [b] = 0 := by
  obtain ⟨h1, _, _⟩ := risS_facts h
  have h2 : rall [b] = 0 := rall_zero.2 (fun x hx => by
    rw [List.mem_singleton] at hx
    rw [hx]; exact rall_zero.1 h1 b hb)
  unfold risS
  rw [if_pos h2]
  rfl
/-- Of the first hits those of one rule. -/
def alTo (H : List (Nat × Nat)) (i j : Nat) : List (Nat × Nat) := (H.take j).filter (fun z => z.2 == i)
theorem alTo_step (H : List (Nat × Nat)) (i j : Nat) {a r : Nat} (h : H[j]? = some (a, r)) : alTo H i (j + 1) = alTo H i j ++ if r = i then [(a, r)] else [] := by
  unfold alTo
  rw [List.take_add_one, h, List.filter_append]
  congr 1
  by_cases e : r = i <;> simp [e]
theorem alTo_len (H : List (Nat × Nat)) (i j : Nat) : (alTo H i j).length ≤ j := by
  unfold alTo
  have h1 := List.length_filter_le (fun z : Nat × Nat => z.2 == i) (H.take j)
  rw [List.length_take] at h1
  omega
theorem alTo_pre (H : List (Nat × Nat)) (i j : Nat) : alTo H i j <+: H.filter (fun z => z.2 == i) := by
  have h := List.filter_append (p := fun z : Nat × Nat => z.2 == i) (H.take j) (H.drop j)
  rw [List.take_append_drop] at h
  exact ⟨_, h.symm⟩
theorem alone_get {F : List (List Int)} {x : List Int} {i : Nat} (hi : i < F.length) {j a : Nat} (h : (hitsP F x)[j]? = some (a, i)) : (hitsP [F.getD i []] x)[(alTo (hitsP F x) i j).length]? = some (a, 0) := by
  have h1 := alTo_step (hitsP F x) i j h
  rw [if_pos rfl] at h1
  obtain ⟨t, ht⟩ := alTo_pre (hitsP F x) i (j + 1)
  rw [h1, hits_alone F x hi] at ht
  have h2 : ((hitsP [F.getD i []] x).map (fun z => (z.1, i)))[(alTo (hitsP F x) i j).length]? = some (a, i) := by
    rw [← ht, List.append_assoc, List.getElem?_append_right (Nat.le_refl _), Nat.sub_self]
    rfl
  rw [List.getElem?_map] at h2
  cases h3 : (hitsP [F.getD i []] x)[(alTo (hitsP F x) i j).length]? with
  | none => rw [h3] at h2; cases h2
  | some y =>
    rw [h3] at h2
    have h4 := Option.some.inj h2
    obtain ⟨y1, y2⟩ := y
    simp only [Prod.mk.injEq] at h4
    obtain ⟨_, h5, _⟩ := mem_hitsP.1 (List.mem_of_getElem? h3)
    simp only [List.length_cons, List.length_nil] at h5
    rw [h4.1, show y2 = 0 by omega]
theorem alone_len {F : List (List Int)} {x : List Int} {i : Nat} (hi : i < F.length) : (alTo (hitsP F x) i (hitsP F x).length).length = (hitsP [F.getD i []] x).length := by
  unfold alTo
  rw [List.take_length, hits_alone F x hi, List.length_map]
theorem hits_bound8 {F : List (List Int)} {l : List Int} (hF : F.length ≤ 4096) (hl : l.length ≤ 64) : (hitsP F l).length ≤ 266240 := by
  have h1 : (hitsTo (atP F l) (l.length + 1)).length ≤ (l.length + 1) * 4096 := hitsTo_len _ 4096 (fun b => Nat.le_trans (atP_len _ _ _) hF) _
  have h3 : (l.length + 1) * 4096 ≤ 65 * 4096 := Nat.mul_le_mul_right _ (by omega)
  exact Nat.le_trans h1 (Nat.le_trans h3 (by decide))
theorem one_rule (w : World) (b : Blk) : BRuns (w.alloc (.cells #[.string b.1, .string b.2.1, .int .i64 b.2.2] 55)) (.slice (some ⟨w.heap.size, 0, none⟩) 1 1) [b] :=
  GRuns.of_own (enc := blkCell) (k := 3) (base := 0) (n := 1) (l := [b]) (fun _ => rfl) rfl ⟨rfl, .inr ⟨w.heap.size, 1, _, rfl, Nat.zero_le _, heap_alloc_new w _, Nat.le_refl _, by unfold maxLen; omega, rfl, rfl⟩⟩

set_option maxRecDepth 100000 in
set_option maxHeartbeats 8000000 in
theorem matchAlone_walk (u : Value) (L : List Blk) (s : ByteArray) (w : World) (h : Okw w) (hu : BRuns w u L) (hl : L.length ≤ 2000000) (hz : szL L) (hs : s.size ≤ 2000000) :
    Calls Tryd.prog 8 #[u, .string s] w (RetTrue w) := by
  have cn := fun W hO hu => new_any u L W hO hu hl hz
  have cg := fun W hu => great8_det u L s W hu (szM_of hz) (by omega)
  have ch := fun p L W hO hr hM => hits_any p L s W hO (by omega) hr hM
  have hmr := fun h => @mrules_of L h
  have hone := fun h b hb => @ris_one L h b hb
  obtain ⟨A, c, e⟩ := hu.slice
  obtain ⟨n, hn⟩ : ∃ n, L.length = n := ⟨_, rfl⟩
  rw [hn] at e
  subst e
  obtain ⟨er, her⟩ : ∃ z, risS L = z := ⟨_, rfl⟩
  simp only [her] at cn hmr hone
  obtain ⟨gr, hgr⟩ : ∃ z, grB8 L s.size = z := ⟨_, rfl⟩
  simp only [hgr] at cg
  have CN := Lib.hid cn; have CG := Lib.hid cg; have CH := Lib.hid ch; have HMR := Lib.hid hmr; have HONE := Lib.hid hone
  have HU := Lib.hid hu; have HOK := Lib.hid h; have HN := Lib.hid hn; have HZ := Lib.hid hz
  have AL := Lib.hid alive8_any
  have C1 := Lib.hid (fun (b : Blk) (u : Value) W (hO : Okw W) (hu : BRuns W u [b]) (hb : szL [b]) => new_any u [b] W hO hu (by simp) hb)
  clear cn cg ch hmr hone hu h hn her hgr hz
  go_enter Tryd.func8, Tryd.ntmps8
  go_wp2_with fail
  refine (AL.out _ HOK.out).mono ?_
  rintro e w1 ⟨rfl, b1⟩
  have B1 := Lib.hid b1
  clear b1
  go_wp2_with fail
  refine (CN.out w1 (HOK.out.below B1.out) (HU.out.below B1.out)).mono ?_
  rintro e w2 ⟨mv, rfl, hN, b2⟩
  have B2 := Lib.hid (B1.out.trans (b2.mono B1.out.size))
  have HNP := Lib.hid hN
  clear b2 hN B1
  go_wp2_with fail
  refine (CG.out w2 (HU.out.below B2.out)).mono ?_
  rintro e w3 ⟨rfl, b3⟩
  have B23 := Lib.hid b3
  have B3 := Lib.hid (B2.out.trans (b3.mono B2.out.size))
  clear b3
  cases gr with
  | true =>
    go_wp2
    go_ret
    exact ⟨rfl, B3.out⟩
  | false =>
  by_cases hn20 : 20 < n
  · have hn21 : (20 : Int) < (n : Int) := by omega
    go_wp2
    go_ret
    exact ⟨rfl, B3.out⟩
  have hn21 : ¬ (20 : Int) < (n : Int) := by omega
  by_cases h0 : er = 0
  rotate_left
  · have hne : (er != 0) = true := by simpa using h0
    go_wp2
    go_ret
    exact ⟨rfl, B3.out⟩
  subst h0
  obtain ⟨p, rfl, hM⟩ : ∃ p, mv = .pointer (some ⟨p, 0, none⟩) ∧ MachOk w3 p L := by
    rcases HNP.out with ⟨h, _⟩ | ⟨_, p, e, _, hM⟩
    · exact absurd rfl h
    · exact ⟨p, e, hM.below B23.out⟩
  have hR := HMR.out (by first | rfl | trivial)
  have hone := HONE.out (by first | rfl | trivial)
  have K3 := Lib.hid (HOK.out.below B3.out)
  have HM := Lib.hid hM; have HR := Lib.hid hR; have HO1 := Lib.hid hone
  clear hM hR HNP B23 HMR HONE hone CN CG AL
  go_wp2_with fail
  refine (CH.out p L w3 K3.out HR.out HM.out).mono ?_
  rintro e w4 ⟨v4, rfl, hr4, b4⟩
  have K4 := Lib.hid (K3.out.below b4)
  have B4 := Lib.hid (B3.out.trans (b4.mono B3.out.size))
  have H4 := Lib.hid hr4
  clear b4 hr4 HM K3
  have hht : ∀ L, htS L s.data.toList = if rdE s.data.toList = 0 then hitsP (frs L) (items s.data.toList) else [] := fun L => rfl
  have hok := fun h => (@rdE_ok s.data.toList h).2.1
  obtain ⟨e2, he2⟩ : ∃ z, rdE s.data.toList = z := ⟨_, rfl⟩
  rw [he2] at hok ⊢
  simp only [he2] at hht CH
  have HHT := Lib.hid hht; have HOK2 := Lib.hid hok
  clear hht hok he2
  by_cases hz0 : e2 = 0
  rotate_left
  · have hne : (e2 != 0) = true := by simpa using hz0
    obtain ⟨Ah, ch, rfl⟩ := GRuns.slice H4.out
    go_wp2
    go_ret
    exact ⟨rfl, B4.out⟩
  subst hz0
  have hl64 := HOK2.out (by first | rfl | trivial)
  have hh1 : ∀ L, htS L s.data.toList = hitsP (frs L) (items s.data.toList) := fun L => by rw [HHT.out, if_pos (by first | rfl | trivial)]
  rw [hh1] at H4
  simp only [hh1] at CH
  obtain ⟨x, hx⟩ : ∃ z, items s.data.toList = z := ⟨_, rfl⟩
  rw [hx] at hl64 H4
  simp only [hx] at CH
  have hqb := hits_bound8 HR.out.many hl64
  have HL64 := Lib.hid hl64
  obtain ⟨H, hH⟩ : ∃ z, hitsP (frs L) x = z := ⟨_, rfl⟩
  rw [hH] at H4 hqb
  have HH := Lib.hid hH
  obtain ⟨Ah, ch, rfl⟩ := GRuns.slice H4.out
  obtain ⟨q, hq⟩ : ∃ z, H.length = z := ⟨_, rfl⟩
  rw [hq] at H4 hqb ⊢
  have HQ := Lib.hid hq
  clear hh1 hx hH hq HHT HOK2 hl64
  go_wp2
  go_loopw [47] (fun s47 wr => ∃ i : Nat, i ≤ n ∧ s47 = .int .i64 (i : Int) ∧ Hid (Below w4.heap.size w4 wr)) (fun s47 _ => n - (RowKit.intOf s47).toNat)
  case atStart => exact ⟨0, Nat.zero_le _, rfl, Lib.hid (Below.refl _ _)⟩
  case round =>
    obtain ⟨i, hi, rfl, BW⟩ := hrel
    by_cases hi1 : i < n
    · have i1 : (i : Int) < (n : Int) := by omega
      obtain ⟨⟨p1, p2, p3⟩, hp⟩ : ∃ p, L[i]? = some p := ⟨_, List.getElem?_eq_getElem (by rw [HN.out]; exact hi1)⟩
      obtain ⟨b, o, rfl, _, hc⟩ := ((HU.out.below B4.out).below BW.out).cells HN.out (by omega)
      obtain ⟨g0, g1, g2⟩ := blk_cells hc hp
      simp only at g0 g1 g2
      have hz1 := HZ.out _ (List.mem_of_getElem? hp)
      have ho1 := HO1.out _ (List.mem_of_getElem? hp)
      have hfr : frs [(p1, p2, p3)] = [(frs L).getD i []] := by rw [frs_getD hp]; rfl
      have hal : Below wr.heap.size wr (wr.alloc (.cells #[.string p1, .string p2, .int .i64 p3] 55)) := (Below.refl _ _).alloc (Nat.le_refl _) _
      have r1 := one_rule (wr.alloc (.cells #[.string p1, .string p2, .int .i64 p3] 55)) (p1, p2, p3)
      have hal2 : Below wr.heap.size wr ((wr.alloc (.cells #[.string p1, .string p2, .int .i64 p3] 55)).alloc (.cells #[.string p1, .string p2, .int .i64 p3] 55)) := hal.alloc hal.size _
      rw [World.size_alloc] at r1
      simp only at r1
      obtain ⟨wb, hwb⟩ : ∃ z, (wr.alloc (.cells #[.string p1, .string p2, .int .i64 p3] 55)).alloc (.cells #[.string p1, .string p2, .int .i64 p3] 55) = z := ⟨_, rfl⟩
      rw [hwb] at r1 hal2
      have BB := Lib.hid (BW.out.trans (hal2.mono BW.out.size))
      have c1 := C1.out (p1, p2, p3) _ wb (K4.out.below BB.out) r1 (fun z hz => by
        rw [List.mem_singleton] at hz
        rw [hz]; exact hz1)
      rw [ho1] at c1
      have CC1 := Lib.hid c1; have HWB := Lib.hid hwb; have HFR := Lib.hid hfr; have HO2 := Lib.hid ho1
      clear hc hp hz1 ho1 hfr hal hal2 r1 hwb c1
      go_wp2_with fail
      rw [HWB.out]
      refine CC1.out.mono ?_
      rintro e w5 ⟨mv5, rfl, hN5, b5⟩
      obtain ⟨p5, rfl, hM5⟩ : ∃ p, mv5 = .pointer (some ⟨p, 0, none⟩) ∧ MachOk w5 p [(p1, p2, p3)] := by
        rcases hN5 with ⟨h, _⟩ | ⟨_, p, e, _, hM⟩
        · exact absurd rfl h
        · exact ⟨p, e, hM⟩
      have B5 := Lib.hid (BB.out.trans (b5.mono BB.out.size))
      have c5 := CH.out p5 [(p1, p2, p3)] w5 (K4.out.below B5.out) (mrules_of HO2.out) hM5
      rw [HFR.out] at c5
      have CC5 := Lib.hid c5
      clear hN5 b5 hM5 c5 CC1
      go_wp2_with fail
      refine CC5.out.mono ?_
      rintro e w6 ⟨v6, rfl, hr6, b6⟩
      have B6 := Lib.hid (B5.out.trans (b6.mono B5.out.size))
      obtain ⟨O, hO⟩ : ∃ z, hitsP [(frs L).getD i []] x = z := ⟨_, rfl⟩
      have hget : ∀ j a, H[j]? = some (a, i) → O[(alTo H i j).length]? = some (a, 0) := fun j a hj => by
        rw [← hO, ← HH.out]
        exact alone_get (by rw [frs_len, HN.out]; exact hi1) (by rw [HH.out]; exact hj)
      have hend : (alTo H i q).length = O.length := by
        rw [← HQ.out, ← hO, ← HH.out]
        exact alone_len (by rw [frs_len, HN.out]; exact hi1)
      rw [hO] at hr6
      obtain ⟨A6, c6, rfl⟩ := GRuns.slice hr6
      obtain ⟨m, hm⟩ : ∃ z, O.length = z := ⟨_, rfl⟩
      rw [hm] at hr6 hend ⊢
      have hm26 : m ≤ 266240 := by rw [← hend]; have := alTo_len H i q; omega
      have HR6 := Lib.hid hr6; have HG := Lib.hid hget; have HEND := Lib.hid hend; have HMO := Lib.hid hm
      have H46 := Lib.hid (H4.out.below B6.out)
      clear hr6 b6 CC5 hget hend hO hm
      go_wp2
      go_loopw [15, 70] (fun s15 s70 wq => ∃ j : Nat, j ≤ q ∧ s70 = .int .i64 (j : Int) ∧ s15 = .int .i64 ((alTo H i j).length : Nat) ∧ Hid (Below w6.heap.size w6 wq)) (fun _ s70 _ => q - (RowKit.intOf s70).toNat)
      case atStart => exact ⟨0, Nat.zero_le _, rfl, rfl, Lib.hid (Below.refl _ _)⟩
      case round =>
        obtain ⟨j, hj, rfl, rfl, BQ⟩ := hrel
        by_cases hj1 : j < q
        · have j1 : (j : Int) < (q : Int) := by omega
          obtain ⟨⟨y1, y2⟩, hy⟩ : ∃ y, H[j]? = some y := ⟨_, List.getElem?_eq_getElem (by rw [HQ.out]; exact hj1)⟩
          obtain ⟨bb, oo, rfl, _, hcc⟩ := (H46.out.below BQ.out).cells HQ.out (by omega)
          have f0 := hcc j _ hy 0 _ rfl
          have f1 := hcc j _ hy 1 _ rfl
          rw [Nat.add_zero] at f0
          simp only at f0 f1
          have hst := alTo_step H i j hy
          have hal : Below wr.heap.size wr (wr.alloc (.cells #[.int .i64 (y1 : Int), .int .i64 (y2 : Int)] 50)) := (Below.refl _ _).alloc (Nat.le_refl _) _
          have BQ2 := Lib.hid (BQ.out.trans (hal.mono BQ.out.size))
          by_cases e : y2 = i
          · have eq1 : ((y2 : Int) != (i : Int)) = false := by simp [e]
            rw [if_pos e] at hst
            have hh := HG.out j y1 (by rw [hy, e])
            have hlt := (List.getElem?_eq_some_iff.1 hh).1
            rw [HMO.out] at hlt
            obtain ⟨b7, o7, rfl, _, hcc7⟩ := ((HR6.out.below BQ.out).below hal).cells HMO.out (by omega)
            have k0 := hcc7 _ _ hh 0 _ rfl
            have k1 := hcc7 _ _ hh 1 _ rfl
            rw [Nat.add_zero] at k0
            simp only at k0 k1
            have hnx : (alTo H i (j + 1)).length = (alTo H i j).length + 1 := by rw [hst, List.length_append]; rfl
            obtain ⟨t, ht⟩ : ∃ z, (alTo H i j).length = z := ⟨_, rfl⟩
            rw [ht] at k0 k1 hnx hlt ⊢
            have HNX := Lib.hid hnx
            have z1 : decide ((m : Int) ≤ (t : Int)) = false := by simp; omega
            have z1' : decide (m ≤ t) = false := by simp; omega
            have z2 : (t : Int) < (m : Int) := by omega
            have hw : ((t : Int) + 1) = ((t + 1 : Nat) : Int) := by omega
            have HW := Lib.hid hw
            have BD := BQ2.out.drew
            have HBD := Lib.hid BD
            clear hcc hcc7 hy hh hst hal hnx ht hw BD e
            go_wp2
            go_quiet (fail)
            go_wp2
            exact ⟨⟨j + 1, by omega, by go_num, by rw [HNX.out]; go_num, Lib.hid (below_draws BQ2.out _)⟩, by simp [RowKit.intOf]; omega⟩
          · have eq1 : ((y2 : Int) != (i : Int)) = true := by simp; omega
            rw [if_neg e, List.append_nil] at hst
            have HST := Lib.hid hst
            clear hcc hy hst hal e
            go_wp2
            exact ⟨⟨j + 1, by omega, by go_num, by rw [HST.out], BQ2⟩, by simp [RowKit.intOf]; omega⟩
        · obtain rfl : j = q := by omega
          have HE := HEND.out
          rw [HE]
          have B7 := Lib.hid (B6.out.trans (BQ.out.mono B6.out.size))
          clear HE
          go_wp2
          exact ⟨⟨i + 1, by omega, by go_num, B7⟩, by simp [RowKit.intOf]; omega⟩
    · obtain rfl : i = n := by omega
      go_wp2
      go_ret
      exact ⟨rfl, B4.out.trans (BW.out.mono B4.out.size)⟩
end Go.Proofs.YtbbkkoeipkigdaaDoor

/- errataref01.Text, where layer 2 is not at hand. -/
namespace Go.Proofs.YtbbkkoeipkigdaaDoor
open Go.RowKit Go.Shelf

set_option maxRecDepth 100000 in
set_option maxHeartbeats 1000000 in
theorem ntext_any (u : Value) (l : List Int) (w : World) (hu : Runs w u l) (hlen : l.length * 4 + 4 ≤ 140737488355328) :
    Calls Tryd.prog 32 #[u] w fun e w' => e = .returned (.string ⟨(encS l).toArray⟩) ∧ Below w.heap.size w w' := by
  have C := Lib.hid (refEncode_any u l w hu hlen)
  go_enter Tryd.func32, Tryd.ntmps32
  go_wp2_with fail
  refine C.out.mono ?_
  rintro e w1 ⟨rfl, hb⟩
  go_wp2
  go_ret
  exact ⟨rfl, hb⟩
end Go.Proofs.YtbbkkoeipkigdaaDoor

/- errataref08.States: how many beginnings there are, each once. -/
namespace Go.Proofs.YtbbkkoeipkigdaaDoor
open Go.RowKit Go.Shelf
set_option linter.unusedSimpArgs false
set_option linter.unusedVariables false

/-- A row of runes as a text. -/
def textOf (l : List Int) : ByteArray := ⟨(encS l).toArray⟩
theorem textOf_inj {x y : List Int} (hx : ∀ r ∈ x, Lib.validRune r = true) (hy : ∀ r ∈ y, Lib.validRune r = true) (h : textOf x = textOf y) : x = y := by
  have ex : encS x = encL x := by unfold encS; rw [if_pos (show allRunes x = true from List.all_eq_true.2 hx)]
  have ey : encS y = encL y := by unfold encS; rw [if_pos (show allRunes y = true from List.all_eq_true.2 hy)]
  have h1 : encL x = encL y := by
    rw [← ex, ← ey]
    have h2 := congrArg (fun b : ByteArray => b.data.toList) h
    simpa [textOf] using h2
  have h3 := (items_encL x [] hx).1
  have h4 := (items_encL y [] hy).1
  rw [h1, h4] at h3
  simpa [items_nil] using h3.symm
def strCell8 (t : List Int) : List Value := [.string (textOf t)]
theorem str_one8 (x : List Int) : ∀ u ∈ strCell8 x, u.oneCell' = true := by
  intro u hu
  simp only [strCell8, List.mem_cons, List.mem_nil_iff, or_false] at hu
  subst hu; rfl
theorem info_str8 : (Tryd.prog.info? 9).map (fun i => (i.zero, i.size, i.bytes)) = some (some (.string ⟨#[]⟩), 1, 16) := by kernel_rfl
theorem push_text {w : World} {b0 n : Nat} {v : Value} {M : List (List Int)} (h : w.ownsRow b0 9 1 v n (gCells strCell8 M)) (hb : b0 ≤ w.heap.size) (hl : n ≤ 1000000) (t : List Int) :
    ∃ v' w', (Builtin.append_ #[74, 74] 74 #[v, .slice (some ⟨w.heap.size, 0, none⟩) 1 1]).run Tryd.prog (w.alloc (.cells #[.string (textOf t)] 9)) = .ok v' w' ∧ w'.ownsRow b0 9 1 v' (n + 1) (gCells strCell8 (M ++ [t])) ∧ Below b0 w w' ∧ w.grownBy w' v.ownBlock := by
  obtain ⟨v', w', hrun, hown, hg, hob⟩ := append_one (P := Tryd.prog) (enc := strCell8) (k := 1) (fun _ => rfl) str_one8 info_str8 rfl (by decide) (by decide) Tryd.underlying74 w b0 v n (gCells strCell8 M) h t hb (by omega)
  have hg1 : w.grownBy w' v.ownBlock := (World.grownBy_alloc _ _ _).trans hg
  exact ⟨v', w', hrun, by rw [gCells_snoc]; exact hown, (Below.refl b0 w).grown hg1 hb (own_block h), hg1⟩
theorem dec_own {s : ByteArray} {w : World} {e : Ending} {w' : World} (h : DecPost s w e w') (hv : Lib.validD s.data.toList = true) : ∃ A c, e = .returned (.tuple #[.slice A (items s.data.toList).length c, .int .i64 0]) ∧ w'.ownsRow w.heap.size 21 1 (.slice A (items s.data.toList).length c) (items s.data.toList).length ((items s.data.toList).map (Value.int .i32)) ∧ Below w.heap.size w w' := by
  obtain ⟨v, rfl, hrow, hb⟩ := h
  simp only [hv, if_true] at hrow ⊢
  obtain ⟨A, c, e, _⟩ := Runs.of_own hrow
  subst e
  exact ⟨A, c, rfl, hrow, hb⟩
/-- What was met of the first rows, and the first beginnings of one more. -/
def metTo (F : List (List Int)) (j : Nat) : List (List Int) := ((F.take j).flatMap begs).foldl addM [[]]
theorem metTo_succ {F : List (List Int)} {j : Nat} {f : List Int} (h : F[j]? = some f) : metTo F (j + 1) = (begs f).foldl addM (metTo F j) := by
  unfold metTo
  rw [List.take_add_one, h, List.flatMap_append, List.foldl_append]
  simp
def metIn (F : List (List Int)) (j : Nat) (f : List Int) (n : Nat) : List (List Int) := ((begs f).take n).foldl addM (metTo F j)
theorem begs_get {f : List Int} {n : Nat} (h : n < f.length) : (begs f)[n]? = some (f.take (n + 1)) := by
  unfold begs
  rw [List.getElem?_map, List.getElem?_range h]
  rfl
theorem metIn_succ {F : List (List Int)} {j : Nat} {f : List Int} {n : Nat} (h : n < f.length) : metIn F j f (n + 1) = addM (metIn F j f n) (f.take (n + 1)) := by
  unfold metIn
  rw [List.take_add_one, begs_get h, List.foldl_append]
  rfl
theorem metIn_all {F : List (List Int)} {j : Nat} {f : List Int} (h : F[j]? = some f) : metIn F j f f.length = metTo F (j + 1) := by
  rw [metTo_succ h]
  unfold metIn
  rw [List.take_of_length_le (by rw [begs_len]; exact Nat.le_refl _)]
theorem foldM_len (l met : List (List Int)) : (l.foldl addM met).length ≤ met.length + l.length := by
  induction l generalizing met with
  | nil => simp
  | cons a l ih =>
    rw [List.foldl_cons]
    have h1 := ih (addM met a)
    have h2 : (addM met a).length ≤ met.length + 1 := by unfold addM; split <;> simp
    simp only [List.length_cons]
    omega
theorem metTo_len {F : List (List Int)} (h3 : ∀ f ∈ F, f.length ≤ 3) (j : Nat) : (metTo F j).length ≤ 1 + 3 * j := by
  induction j with
  | zero => simp [metTo]
  | succ j ih =>
    cases hf : F[j]? with
    | none =>
      have : metTo F (j + 1) = metTo F j := by unfold metTo; rw [List.take_add_one, hf]; simp
      rw [this]; omega
    | some f =>
      rw [metTo_succ hf]
      have h1 := foldM_len (begs f) (metTo F j)
      rw [begs_len] at h1
      have := h3 f (List.mem_of_getElem? hf)
      omega
theorem foldM_valid (l met : List (List Int)) (hm : ∀ z ∈ met, ∀ r ∈ z, Lib.validRune r = true) (hl : ∀ z ∈ l, ∀ r ∈ z, Lib.validRune r = true) : ∀ z ∈ l.foldl addM met, ∀ r ∈ z, Lib.validRune r = true := by
  induction l generalizing met with
  | nil => exact hm
  | cons a l ih =>
    rw [List.foldl_cons]
    refine ih _ (fun z hz => ?_) (fun z hz => hl z (by simp [hz]))
    rcases mem_addM.1 hz with h | rfl
    · exact hm z h
    · exact hl z (by simp)
theorem begs_valid {f : List Int} (h : ∀ r ∈ f, Lib.validRune r = true) : ∀ z ∈ begs f, ∀ r ∈ z, Lib.validRune r = true := fun z hz r hr => h r ((mem_begs.1 hz).2.subset hr)
theorem metIn_valid {F : List (List Int)} (h : ∀ f ∈ F, ∀ r ∈ f, Lib.validRune r = true) (j : Nat) {f : List Int} (hf : ∀ r ∈ f, Lib.validRune r = true) (n : Nat) : ∀ z ∈ metIn F j f n, ∀ r ∈ z, Lib.validRune r = true := by
  unfold metIn metTo
  refine foldM_valid _ _ (foldM_valid _ _ (fun z hz r hr => by simp at hz; subst hz; cases hr) (fun z hz => ?_)) (fun z hz => begs_valid hf z (List.mem_of_mem_take hz))
  obtain ⟨g, hg, hz'⟩ := List.mem_flatMap.1 hz
  exact begs_valid (h g (List.mem_of_mem_take hg)) z hz'

set_option maxRecDepth 100000 in
set_option maxHeartbeats 8000000 in
theorem refStates_any (u : Value) (L : List Blk) (w : World) (hu : BRuns w u L) (hl : L.length ≤ 4096) (hz : szL L) (hf : ∀ b ∈ L, Lib.validD b.1.data.toList = true ∧ (items b.1.data.toList).length ≤ 3) :
    Calls Tryd.prog 14 #[u] w fun e w' => e = .returned (.int .i64 (statesP (frs L) : Nat)) ∧ Below w.heap.size w w' := by
  obtain ⟨A0, c0, e⟩ := hu.slice
  subst e
  obtain ⟨N, hN⟩ : ∃ z, L.length = z := ⟨_, rfl⟩
  rw [hN] at hu hl ⊢
  have hF3 : ∀ f ∈ frs L, f.length ≤ 3 := fun f hf' => by
    obtain ⟨b, hb, rfl⟩ := List.mem_map.1 hf'
    exact (hf b hb).2
  have hFV : ∀ f ∈ frs L, ∀ r ∈ f, Lib.validRune r = true := fun f hf' => by
    obtain ⟨b, hb, rfl⟩ := List.mem_map.1 hf'
    exact items_runes _ (hf b hb).1
  have hall : metTo (frs L) N = metP (frs L) := by
    unfold metTo metP
    rw [List.take_of_length_le (by rw [frs_len, hN]; exact Nat.le_refl _)]
  have hb0 : Below w.heap.size w (w.alloc (.cells #[.string ⟨#[]⟩] 9)) := (Below.refl _ _).alloc (Nat.le_refl _) _
  have hown : (w.alloc (.cells #[.string ⟨#[]⟩] 9)).ownsRow w.heap.size 9 1 (.slice (some ⟨w.heap.size, 0, none⟩) 1 1) 1 (gCells strCell8 (metTo (frs L) 0)) := ⟨rfl, .inr ⟨w.heap.size, 1, _, rfl, Nat.le_refl _, heap_alloc_new w _, Nat.le_refl _, by unfold maxLen; omega, rfl, rfl⟩⟩
  have HNn := Lib.hid hN; have HU := Lib.hid hu; have HZ := Lib.hid hz; have HF := Lib.hid hf; have HF3 := Lib.hid hF3; have HFV := Lib.hid hFV; have HALL := Lib.hid hall
  have HB0 := Lib.hid hb0; have HOW := Lib.hid hown
  have CTX := Lib.hid ntext_any
  clear hN hu hz hf hF3 hFV hall hb0 hown
  go_enter Tryd.func14, Tryd.ntmps14
  go_wp2
  go_loopw [3, 16] (fun s3 s16 wr => ∃ j : Nat, j ≤ N ∧ s16 = .int .i64 (j : Int) ∧ Hid (wr.ownsRow w.heap.size 9 1 s3 (metTo (frs L) j).length (gCells strCell8 (metTo (frs L) j))) ∧ Hid (Below w.heap.size w wr)) (fun _ s16 _ => N - (RowKit.intOf s16).toNat)
  case atStart => exact ⟨0, Nat.zero_le _, rfl, HOW, HB0⟩
  case round =>
    clear HOW HB0
    obtain ⟨j, hj, rfl, HO, BW⟩ := hrel
    by_cases hj1 : j < N
    · have j1 : (j : Int) < (N : Int) := by omega
      obtain ⟨⟨p1, p2, p3⟩, hp⟩ : ∃ p, L[j]? = some p := ⟨_, List.getElem?_eq_getElem (by rw [HNn.out]; exact hj1)⟩
      obtain ⟨b, o, rfl, _, hc⟩ := (HU.out.below BW.out).cells HNn.out (by omega)
      obtain ⟨g0, g1, g2⟩ := blk_cells hc hp
      simp only at g0 g1 g2
      have hz1 := HZ.out _ (List.mem_of_getElem? hp)
      have hv1 := HF.out _ (List.mem_of_getElem? hp)
      simp only at hz1 hv1
      have hal : Below wr.heap.size wr (wr.alloc (.cells #[.string p1, .string p2, .int .i64 p3] 55)) := (Below.refl _ _).alloc (Nat.le_refl _) _
      obtain ⟨wa, hwa⟩ : ∃ z, wr.alloc (.cells #[.string p1, .string p2, .int .i64 p3] 55) = z := ⟨_, rfl⟩
      have x0 : wa.cell? ⟨wr.heap.size, 0, none⟩ = some (.string p1) := by rw [← hwa, cell_of_row _ _ _ _ _ _ (heap_alloc_new wr _)]; rfl
      rw [hwa] at hal
      obtain ⟨bx, hbx⟩ : ∃ z, wr.heap.size = z := ⟨_, rfl⟩
      have HWA := Lib.hid hwa; have HBX := Lib.hid hbx
      rw [hbx] at x0
      have cd := (refDecode_any p1 wa (by omega)).mono fun e w' h => dec_own h hv1.1
      have hfj : (frs L)[j]? = some (items p1.data.toList) := frs_at hp
      obtain ⟨f, hff⟩ : ∃ z, items p1.data.toList = z := ⟨_, rfl⟩
      rw [hff] at cd hfj hv1
      have hfv := HFV.out f (List.mem_of_getElem? hfj)
      have hend := metIn_all hfj
      have hmv := metIn_valid HFV.out j hfv
      have hml := metTo_len HF3.out j
      have hms := fun n h => @metIn_succ (frs L) j f n h
      obtain ⟨q, hq⟩ : ∃ z, f.length = z := ⟨_, rfl⟩
      rw [hq] at cd hv1 hend
      simp only [hq] at hms
      have hq3 := hv1.2
      have HM0 : Hid (wa.ownsRow w.heap.size 9 1 u3 (metIn (frs L) j f 0).length (gCells strCell8 (metIn (frs L) j f 0))) := Lib.hid (by
        show wa.ownsRow w.heap.size 9 1 u3 (metTo (frs L) j).length (gCells strCell8 (metTo (frs L) j))
        exact own_below HO.out hal)
      have CD := Lib.hid cd; have HQ := Lib.hid hq; have HFVV := Lib.hid hfv; have HEND := Lib.hid hend; have HMV := Lib.hid hmv; have HMS := Lib.hid hms; have HML := Lib.hid hml
      have BA := Lib.hid (BW.out.trans (hal.mono BW.out.size))
      clear hc hp hz1 hv1 hal hwa hbx cd hfj hff hq hfv hend hmv hms hml HO
      go_wp2_with fail
      rw [HWA.out, HBX.out]
      refine CD.out.mono ?_
      rintro e w5 ⟨A5, c5, rfl, hr5, hb5⟩
      have HM5 := Lib.hid (own_below HM0.out hb5)
      have B5 := Lib.hid (BA.out.trans (hb5.mono BA.out.size))
      have HR5 := Lib.hid (own_base hr5 BA.out.size)
      clear hr5 hb5 HM0 CD BA
      go_wp2
      go_loopw [3, 28] (fun s3 s28 wq => ∃ n : Nat, n ≤ q ∧ s28 = .int .i64 (n : Int) ∧ Hid (wq.ownsRow w.heap.size 9 1 s3 (metIn (frs L) j f n).length (gCells strCell8 (metIn (frs L) j f n))) ∧ Hid (Below w.heap.size w wq) ∧ Hid (wq.ownsRow w.heap.size 21 1 (.slice A5 q c5) q (f.map (Value.int .i32)))) (fun _ s28 _ => q - (RowKit.intOf s28).toNat)
      case atStart => exact ⟨0, Nat.zero_le _, rfl, HM5, B5, HR5⟩
      case round =>
        clear HM5 B5 HR5
        obtain ⟨n, hn, rfl, HO, BQ, HRO⟩ := hrel
        have HR := Lib.hid (Runs.of_own HRO.out)
        by_cases hn1 : n < q
        · have n1 : (n : Int) < (q : Int) := by omega
          have hlen : (f.take (n + 1)).length = n + 1 := by rw [List.length_take, HQ.out]; omega
          have hslh := slice_h32 HR.out HQ.out (n + 1) (by omega)
          have ct := CTX.out _ (f.take (n + 1)) wr hslh.2 (by rw [hlen]; omega)
          have hms := HMS.out n hn1
          obtain ⟨cur, hcur⟩ : ∃ z, f.take (n + 1) = z := ⟨_, rfl⟩
          have hcv : ∀ r ∈ cur, Lib.validRune r = true := fun r hr => HFVV.out r (by rw [← hcur] at hr; exact List.mem_of_mem_take hr)
          obtain ⟨M, hM⟩ : ∃ z, metIn (frs L) j f n = z := ⟨_, rfl⟩
          have hmv := HMV.out n
          rw [hM] at hms HO hmv
          rw [hcur] at hms ct
          have hMl : M.length ≤ 20000 := by
            rw [← hM]
            have h1 := foldM_len ((begs f).take n) (metTo (frs L) j)
            have h2 := HML.out
            have h3 : ((begs f).take n).length ≤ n := by rw [List.length_take]; omega
            unfold metIn
            omega
          have hs1 := hslh.1
          have hw1 : (((n + 1 : Nat)) : Int) = (n : Int) + 1 := by omega
          rw [hw1] at hs1
          change Calls Tryd.prog 32 #[_] wr (fun e w' => e = .returned (.string (textOf cur)) ∧ Below wr.heap.size wr w') at ct
          obtain ⟨m, hm⟩ : ∃ z, M.length = z := ⟨_, rfl⟩
          have hown := HO.out
          rw [hm] at hown hMl
          have hrd := GRuns.of_own (enc := strCell8) (k := 1) (fun _ => rfl) hm hown
          obtain ⟨Am, cm, rfl⟩ : ∃ A c, u3 = .slice A m c := by
            obtain ⟨A, c, e⟩ := hrd.slice
            exact ⟨A, c, by rw [e, hm]⟩
          have CT := Lib.hid ct; have HMS1 := Lib.hid hms; have HCV := Lib.hid hcv; have HMV1 := Lib.hid hmv; have HMM := Lib.hid hm; have HRD := Lib.hid hrd; have HOWN := Lib.hid hown
          clear hslh ct hms hcv hmv hm hrd hown hlen hcur hM hw1 HO
          go_wp2_with fail
          refine CT.out.mono ?_
          rintro e w6 ⟨rfl, hb6⟩
          have B6 := Lib.hid (BQ.out.trans (hb6.mono BQ.out.size))
          have HR6 := Lib.hid (own_below HRO.out hb6)
          have HD6 := Lib.hid (HRD.out.below hb6)
          have HOW6 := Lib.hid (own_below HOWN.out hb6)
          clear hb6 CT HR HRO HRD HOWN BQ
          go_wp2
          go_loop [10, 38] (fun s10 s38 => ∃ i : Nat, i ≤ m ∧ s38 = .int .i64 (i : Int) ∧ s10 = .bool (decide (cur ∈ M.take i))) (fun _ s38 => m - (RowKit.intOf s38).toNat)
          case atStart => exact ⟨0, Nat.zero_le _, rfl, by simp⟩
          case round =>
            obtain ⟨i, hi, rfl, rfl⟩ := hrel
            by_cases hi1 : i < m
            · have i1 : (i : Int) < (m : Int) := by omega
              obtain ⟨z, hz⟩ : ∃ z, M[i]? = some z := ⟨_, List.getElem?_eq_getElem (by rw [HMM.out]; exact hi1)⟩
              obtain ⟨bb, oo, rfl, _, hcc⟩ := HD6.out.cells HMM.out (by omega)
              have g3 := hcc i z hz 0 _ rfl
              rw [Nat.mul_one, Nat.add_zero] at g3
              have hst : decide (cur ∈ M.take (i + 1)) = (decide (cur ∈ M.take i) || decide (cur = z)) := by
                rw [List.take_add_one, hz]
                simp [Bool.decide_or]
              have hzv := HMV1.out z (List.mem_of_getElem? hz)
              obtain ⟨t1, ht1⟩ : ∃ y, decide (cur ∈ M.take i) = y := ⟨_, rfl⟩
              rw [ht1] at hst ⊢
              have HST := Lib.hid hst
              clear hst ht1 hcc hz
              cases t1 with
              | true =>
                clear hzv
                go_wp2
                exact ⟨⟨i + 1, by omega, by go_num, by rw [HST.out]; rfl⟩, by simp [RowKit.intOf]; omega⟩
              | false =>
                by_cases hcz : cur = z
                · subst hcz
                  clear hzv
                  go_wp2
                  exact ⟨⟨i + 1, by omega, by go_num, by rw [HST.out]; simp⟩, by simp [RowKit.intOf]; omega⟩
                · have hne : textOf z ≠ textOf cur := fun e => hcz (textOf_inj HCV.out hzv e.symm)
                  have hne2 : ((textOf z).toList == (textOf cur).toList) = false := by
                    rw [beq_eq_false_iff_ne]
                    exact fun e => hne (toList_ext e)
                  have hd : Hid (decide (cur = z) = false) := Lib.hid (by simpa using hcz)
                  clear hne hzv hcz
                  go_wp2
                  exact ⟨⟨i + 1, by omega, by go_num, by rw [HST.out, hd.out]; rfl⟩, by simp [RowKit.intOf]; omega⟩
            · obtain rfl : i = m := by omega
              have hmem : decide (cur ∈ M.take i) = decide (cur ∈ M) := by rw [List.take_of_length_le (by rw [HMM.out]; exact Nat.le_refl _)]
              rw [hmem]
              by_cases hin : cur ∈ M
              · have hd : decide (cur ∈ M) = true := decide_eq_true hin
                rw [hd]
                have HO7 : Hid (w6.ownsRow w.heap.size 9 1 (.slice Am i cm) (metIn (frs L) j f (n + 1)).length (gCells strCell8 (metIn (frs L) j f (n + 1)))) := Lib.hid (by
                  rw [HMS1.out]
                  unfold addM
                  rw [if_pos hin, HMM.out]
                  exact HOW6.out)
                clear hmem hd hin
                go_wp2
                exact ⟨⟨n + 1, by omega, by go_num, HO7, B6, HR6⟩, by simp [RowKit.intOf]; omega⟩
              · have hd : decide (cur ∈ M) = false := decide_eq_false hin
                rw [hd]
                obtain ⟨v7, w7, hrun7, ho7, hb7, hg7⟩ := push_text HOW6.out B6.out.size (by omega) cur
                have e9 : M ++ [cur] = metIn (frs L) j f (n + 1) := by
                  rw [HMS1.out]
                  unfold addM
                  rw [if_neg hin]
                have e10 : i + 1 = (metIn (frs L) j f (n + 1)).length := by rw [← e9, List.length_append, HMM.out]; rfl
                rw [e9, e10] at ho7
                have HO7 := Lib.hid ho7; have HB7 := Lib.hid (B6.out.trans hb7); have H7 := Lib.hid hrun7
                have HR7 := Lib.hid (HR6.out.kept hg7 (own_apart HR6.out HOW6.out (by decide)))
                clear hmem hd hin hrun7 ho7 hb7 hg7 e9 e10
                go_wp2_with (at_builtin; refine wpList_append_run (.tmp 51) (.tmp 53) 74 _ _ _ _ H7.out rfl rfl rfl rfl ?_)
                exact ⟨⟨n + 1, by omega, by go_num, HO7, HB7, HR7⟩, by simp [RowKit.intOf]; omega⟩
        · obtain rfl : n = q := by omega
          have HE : Hid (wr.ownsRow w.heap.size 9 1 u3 (metTo (frs L) (j + 1)).length (gCells strCell8 (metTo (frs L) (j + 1)))) := Lib.hid (by rw [← HEND.out]; exact HO.out)
          go_wp2
          exact ⟨⟨j + 1, by omega, by go_num, HE, BQ⟩, by simp [RowKit.intOf]; omega⟩
    · obtain rfl : j = N := by omega
      have hrd := GRuns.of_own (enc := strCell8) (k := 1) (fun _ => rfl) rfl HO.out
      obtain ⟨Am, cm, e⟩ := hrd.slice
      subst e
      have hln : (metTo (frs L) j).length = statesP (frs L) := by rw [HALL.out]; rfl
      rw [hln]
      clear hrd hln
      go_wp2
      go_ret
      exact ⟨rfl, BW.out⟩
end Go.Proofs.YtbbkkoeipkigdaaDoor

/- What every law's proof needs around its walk: the arguments read as they did wherever old memory is kept; a world for the witness; what the listed tables give. -/
namespace Go.Proofs.YtbbkkoeipkigdaaDoor
open Go.ChangeShapes Go.WideShapes Go.ChangeAt Go.RowKit Go.Shelf

theorem own : ownKnob Tryd.prog.godebug = none := by kernel_rfl
theorem laidOut : laidOutB Tryd.prog = true := by kernel_rfl

theorem trodAll_below {H : Type} {enc : TypeId × Value → H} {P : Program} (hl : laidOutB P = true) {W W' : World} (hb : Below W.heap.size W W') :
    ∀ (ts : List TypeId) (vs : List Value) (ds : List (DataW H)) (ps : List MemPlace), (∀ t ∈ ts, P.readableRec t = true ∧ t < P.types.size) → (∀ x ∈ ps, x.block < W.heap.size) →
      DataW.TrodAll enc P W 0 (fun _ => true) true ts vs ds ps → DataW.TrodAll enc P W' 0 (fun b => decide (b < W.heap.size)) true ts vs ds ps
  | [], vs, ds, ps, _, _, h => by
    obtain ⟨rfl, rfl, rfl⟩ := trodAll_nil h
    exact trodAll_mk0
  | t :: ts, vs, ds, ps, ht, hp, h => by
    obtain ⟨v0, vs0, d0, ds0, p0, q0, rfl, rfl, rfl, h0, r0⟩ := trodAll_cons h
    exact trodAll_cons_mk (Below.trod hl (ht t (by simp)).1 (ht t (by simp)).2 h0 hb (fun x hx => hp x (by simp [hx]))) (trodAll_below hl hb ts vs0 ds0 q0 (fun t' h' => ht t' (by simp [h'])) (fun x hx => hp x (by simp [hx])) r0)

theorem cells32 : Tryd.prog.cellsOf 21 = 1 := by kernel_rfl
set_option maxRecDepth 100000 in
/-- An argument of type []int32 reads as a list of numbers of that kind. -/
theorem runs_of_arg {H : Type} {enc : TypeId × Value → H} {W : World} {base : Nat} {v : Value} {d : DataW H} {p : List MemPlace} (hv : Value.okWide Tryd.prog W .any base 46 v) (h : DataW.Trod enc Tryd.prog W 0 (fun _ => true) true 46 v d p) :
    ∃ a : List Int, Runs W v a ∧ ∀ x ∈ a, -2147483648 ≤ x ∧ x ≤ 2147483647 := by
  obtain ⟨a0, len, cap, rfl⟩ := okWide_slice Tryd.underlying46 hv
  obtain ⟨fuel, hf⟩ := h
  rcases open_ints Tryd.underlying46 Tryd.underlying21 cells32 hf with ⟨hcs, _⟩ | ⟨a, len', cap', zs, hcs, _, hl, hm, hz, _, hcell, hwz⟩
  · have e : Value.slice a0 len cap = .slice none 0 0 := by simpa [Value.cells] using hcs
    rw [e]
    exact ⟨[], Runs.nil_ _, by simp⟩
  · have e : Value.slice a0 len cap = .slice (some a) len' cap' := by simpa [Value.cells] using hcs
    rw [e]
    simp only [if_true] at hz
    have hlen : (zs.take len').length = len' := by rw [List.length_take]; omega
    refine ⟨zs.take len', ⟨some a, cap', by rw [hlen], by omega, ⟨hm, fun h => by cases h⟩, fun h0 => ?_⟩, fun x hx => bounds_i32 (hwz x (List.mem_of_mem_take hx))⟩
    obtain ⟨b, off, rfl, hc⟩ := ints_at hcell (by omega)
    have h00 := hc 0 (by omega)
    refine ⟨b, off, rfl, ?_, fun j hj => ?_⟩
    · rcases Nat.lt_or_ge b W.heap.size with h' | h'
      · exact h'
      · simp [World.cell?, Array.getElem?_eq_none h'] at h00
    · rw [hc j (by omega)]
      simp only [List.getD_eq_getElem?_getD, List.getElem?_take]
      rw [if_pos (by omega)]

/-- A law that answered true and changed nothing old has its row's post. -/
theorem law_post {H : Type} {enc : TypeId × Value → H} {P : Program} {f : Func} {s : ChangeSpec} {W W' : World} {args : Array Value} {ds gs : List (DataW H)} {before : List MemPlace} {tb : TypeId}
    (hl : laidOutB P = true) (hts : ∀ t ∈ f.params.toList, P.readableRec t = true ∧ t < P.types.size) (hW : DataW.Whole enc P f.params.toList s.vars false W args.toList ds gs before) (hb : Below W.heap.size W W')
    (hbool : P.underlying tb = some .bool) (hrt : f.resultTypes = #[tb]) (hs : s.vars = []) (h1 : (s.fn H (ds ++ gs)).results = [.lit (.bool true)]) (h2 : (s.fn H (ds ++ gs)).args = ds) (h3 : (s.fn H (ds ++ gs)).vars = []) :
    s.post enc P f false true false false W args (.bool true) W' := by
  have hW' := hW
  obtain ⟨p, q, hA, hV, hbef, _, _⟩ := hW
  have hlt : ∀ x ∈ p, x.block < W.heap.size := fun x hx => hW'.lt x (by rw [hbef]; simp [hx])
  refine ⟨ds, gs, before, [], p, [], hW', ?_, ?_, ?_, hb.frame _, fun h => by cases h⟩
  · rw [hrt, h1]; exact trodAll_cons_mk (shut_bool hbool _) trodAll_mk0
  · rw [h2]; exact trodAll_below hl hb _ _ _ _ hts hlt hA
  · rw [hs, h3]; rfl

/-- The list of variables that every row of this seat bears. -/
def laidList : List (String × DataW Unit) := [("unicode/utf8.acceptRanges", Rows.laid_unicode_utf8_acceptRanges), ("unicode/utf8.first", Rows.laid_unicode_utf8_first)]
theorem accept_same : (Rows.laid_unicode_utf8_acceptRanges : DataW Unit) = Lib.acceptData := by kernel_rfl
theorem first_same : Rows.laid_unicode_utf8_first = Lib.firstData := by kernel_rfl

theorem okw_of_laid {W : World} (hL : laidMetH Tryd.prog laidList W) : Okw W := by
  have h : laidMet Tryd.prog laidList W := hL
  have ht : Tabs W := utf8Tabs_of_readsT (U8Types.of260 Tryd.lays260) ⟨by kernel_rfl, by kernel_rfl, by kernel_rfl, by kernel_rfl, by kernel_rfl, by kernel_rfl, by kernel_rfl⟩
    (by have := Lib.laidMet.reads h (n := "unicode/utf8.first") (d := Rows.laid_unicode_utf8_first) (by simp [laidList]); rwa [first_same] at this)
    (by have := Lib.laidMet.reads h (n := "unicode/utf8.acceptRanges") (d := Rows.laid_unicode_utf8_acceptRanges) (by simp [laidList]); rwa [accept_same] at this)
  have lt : ∀ {a : Addr} {v : Value}, W.cell? a = some v → a.block < W.heap.size := fun {a v} hc => by
    rcases Nat.lt_or_ge a.block W.heap.size with h' | h'
    · exact h'
    · simp [World.cell?, Array.getElem?_eq_none h'] at hc
  exact ⟨ht, lt (ht.1 0 (by decide)), lt (ht.2 0 (by decide)).1⟩

def putCells (cs : Array Value) : Obj → Obj
  | .cells _ t frozen => .cells cs t frozen
  | o => o
/-- A world for the witness: the settled one, the two tables as their initialisers lay them. -/
noncomputable def laidWorld (os : Os) : World :=
  { World.holding Tryd.prog os ⟨#[], #[], []⟩ with heap := ((World.holding Tryd.prog os ⟨#[], #[], []⟩).heap.modify 0 (putCells (Lib.firstTab.map fun z => Value.int .u8 z).toArray)).modify 1 (putCells ((List.range 16).flatMap fun i => [Value.int .u8 (Lib.accLo i), Value.int .u8 (Lib.accHi i)]).toArray) }
theorem laid_met (os : Os) (args : Array Value) : laidMet Tryd.prog laidList ((laidWorld os).forCall (fun _ _ => 0) ⟨#[], args, []⟩).memory :=
  laidMet_of_run' 8 (by kernel_rfl) (by kernel_rfl)
end Go.Proofs.YtbbkkoeipkigdaaDoor

/- Arguments opened: a slice of structs, a slice of blocks; how long their texts may be. -/
namespace Go.Proofs.YtbbkkoeipkigdaaDoor
open Go.ChangeShapes Go.WideShapes Go.ChangeAt Go.RowKit Go.Shelf Go.Deep Go.Joins
set_option linter.unusedSimpArgs false
set_option linter.unusedVariables false

theorem blkFields : ∃ f0 f1 f2 : Field, Tryd.prog.underlying 121 = some (.struct #[f0, f1, f2]) ∧ f0.type = 9 ∧ f0.offset = 0 ∧ f1.type = 9 ∧ f1.offset = 1 ∧ f2.type = 3 ∧ f2.offset = 2 :=
  ⟨_, _, _, Tryd.underlying121, rfl, rfl, rfl, rfl, rfl, rfl⟩
theorem cellsBlk6 : Tryd.prog.cellsOf 121 = 3 := by kernel_rfl
theorem cellsInt6 : Tryd.prog.cellsOf 3 = 1 := by kernel_rfl
theorem cellsStr6 : Tryd.prog.cellsOf 9 = 1 := by kernel_rfl
def blkD {H : Type} (b : Blk) : DataW H := .agg [.lit (.string b.1.data.toList), .lit (.string b.2.1.data.toList), .lit (.int .i64 b.2.2)]
set_option maxRecDepth 100000 in
theorem blk_of_cells {H : Type} {enc : TypeId × Value → H} {W : World} {fuel : Nat} {cs : List Value} {x : DataW H × List MemPlace} (h : DataW.trod enc Tryd.prog W 0 (fun _ => true) true fuel 121 cs = some x) : ∃ p : Blk, cs = blkCell p ∧ x.1 = blkD p := by
  obtain ⟨f0, f1, f2, hu, t0, o0, t1, o1, t2, o2⟩ := blkFields
  obtain ⟨xs, n, _, hx, hlen, hxl, hf⟩ := DataW.trod_struct hu h
  rw [cellsBlk6] at hlen
  have h0 := hf 0 f0 rfl
  have h1 := hf 1 f1 rfl
  have h2 := hf 2 f2 rfl
  rw [t0, o0, cellsStr6] at h0
  rw [t1, o1, cellsStr6] at h1
  rw [t2, o2, cellsInt6] at h2
  have hx3 : xs.length = 3 := hxl
  match cs, hlen, xs, hx3 with
  | [c0, c1, c2], _, [x0, x1, x2], _ =>
    obtain ⟨a0, e0, d0, _⟩ := DataW.trod_string Tryd.underlying9 h0
    obtain ⟨a1, e1, d1, _⟩ := DataW.trod_string Tryd.underlying9 h1
    obtain ⟨a2, e2, d2, _⟩ := DataW.trod_int Tryd.underlying3 h2
    simp at e0 e1 e2 d0 d1 d2
    refine ⟨(a0, a1, a2), by rw [e0, e1, e2]; rfl, ?_⟩
    rw [hx]
    simp [blkD, d0, d1, d2]
/-- A slice of structs, read. -/
theorem gruns_of_trod {H : Type} {enc : TypeId × Value → H} {W : World} {fuel : Nat} {v : Value} {x : DataW H × List MemPlace} {tS tE : TypeId} {α : Type} (z : α) {cell : α → List Value} {dat : α → DataW H} {k : Nat} (hk0 : 0 < k) (hU : Tryd.prog.underlying tS = some (.slice tE)) (hcl : Tryd.prog.cellsOf tE = k) (hln : ∀ p, (cell p).length = k)
    (hone : ∀ {fuel : Nat} {cs : List Value} {x : DataW H × List MemPlace}, DataW.trod enc Tryd.prog W 0 (fun _ => true) true fuel tE cs = some x → ∃ p, cs = cell p ∧ x.1 = dat p)
    (h : DataW.trod enc Tryd.prog W 0 (fun _ => true) true fuel tS [v] = some x) : ∃ l : List α, GRuns cell k W v l ∧ ((x.1 = .nil ∧ l = []) ∨ ∃ sp, x.1 = .slice (l.map dat) sp) := by
  rcases open_slice hU h with ⟨h0, hx⟩ | ⟨a, len, cap, m, n, D, Pl, hcs, _, hl, hm, hmm, hx, hi⟩
  · obtain rfl : v = .slice none 0 0 := by simpa using h0
    exact ⟨[], GRuns.nil_ _ _ _, .inl ⟨by rw [hx], rfl⟩⟩
  · obtain rfl : v = .slice (some a) len cap := by simpa using hcs
    simp only [if_true] at hmm
    subst hmm
    have hex : ∀ i, i < len → ∃ p : α, (∀ j, j < k → W.cell? (a.add (i * k + j)) = (cell p)[j]?) ∧ D i = dat p := by
      intro i hil
      obtain ⟨cs', hc, ht⟩ := hi i (by omega)
      rw [hcl] at hc
      obtain ⟨p, rfl, hd⟩ := hone ht
      obtain ⟨_, _, hat⟩ := World.cells?_some hc
      exact ⟨p, fun j hj => by rw [← Go.Deep.add_add]; exact hat j hj, hd⟩
    obtain ⟨f, hf⟩ : ∃ f : Nat → α, ∀ i, i < len → (∀ j, j < k → W.cell? (a.add (i * k + j)) = (cell (f i))[j]?) ∧ D i = dat (f i) := by
      refine ⟨fun i => if hi : i < len then Classical.choose (hex i hi) else z, fun i hi => ?_⟩
      simp only [hi, dif_pos]
      exact Classical.choose_spec (hex i hi)
    have hll : ((List.range len).map f).length = len := by simp
    refine ⟨(List.range len).map f, ⟨some a, _, by rw [hll], by rw [hll]; exact hl, ⟨hm, fun h => by cases h⟩, fun hp => ?_⟩, .inr ⟨(List.range (m - len)).map fun j => D (len + j), ?_⟩⟩
    · rw [hll] at hp
      obtain ⟨b, off, spot⟩ := a
      have hc0 : 0 < (cell (f 0)).length := by rw [hln]; exact hk0
      have h00 := (hf 0 hp).1 0 hk0
      rw [List.getElem?_eq_getElem hc0] at h00
      have hspot : spot = none := by simpa [Addr.add] using World.cell?_spot h00
      subst hspot
      have hblt : b < W.heap.size := by
        have := World.block_lt_of_cell? W _ h00
        simpa [Addr.add] using this
      refine ⟨b, off, rfl, hblt, fun j x hj i u hu => ?_⟩
      have hjl : j < len := by have := (List.getElem?_eq_some_iff.1 hj).1; rwa [hll] at this
      have hxe : f j = x := by
        rw [List.getElem?_map, List.getElem?_range hjl] at hj
        simpa using hj
      have hik : i < k := by have := (List.getElem?_eq_some_iff.1 hu).1; rwa [hln] at this
      have h1 := (hf j hjl).1 i hik
      rw [hxe, hu, addr_add] at h1
      rw [Nat.add_assoc]
      exact h1
    · rw [hx]
      have e : (List.range len).map D = ((List.range len).map f).map dat := by
        rw [List.map_map]
        exact List.map_congr_left (fun i hi => (hf i (List.mem_range.1 hi)).2)
      rw [e]
/-- The second form's bound. -/
theorem blks_bulk {H : Type} {d : DataW H} {l : List Blk} (hd : (d = .nil ∧ l = []) ∨ ∃ sp, d = .slice (l.map blkD) sp) (hw : Rows.uptoBulk d ≤ 1048576) : l.length ≤ 2000000 ∧ szL l := by
  rcases hd with ⟨_, rfl⟩ | ⟨sp, rfl⟩
  · exact ⟨by simp, fun b hb => by simp at hb⟩
  simp only [Rows.uptoBulk] at hw
  have key : ∀ l : List Blk, l.length ≤ Rows.uptoBulkAll (l.map (blkD (H := H))) ∧ ∀ b ∈ l, b.1.size ≤ Rows.uptoBulkAll (l.map (blkD (H := H))) ∧ b.2.1.size ≤ Rows.uptoBulkAll (l.map (blkD (H := H))) := by
    intro l
    induction l with
    | nil => exact ⟨by simp, fun b hb => by simp at hb⟩
    | cons a l ih =>
      have e : Rows.uptoBulkAll ((a :: l).map (blkD (H := H))) = a.1.data.toList.length + 1 + (a.2.1.data.toList.length + 1 + (1 + 0)) + 1 + Rows.uptoBulkAll (l.map (blkD (H := H))) := rfl
      rw [e, List.length_cons]
      refine ⟨by have := ih.1; omega, fun b hb => ?_⟩
      rcases List.mem_cons.1 hb with rfl | hb
      · rw [Lib.size_eq, Lib.size_eq]; omega
      · have := ih.2 b hb; omega
  obtain ⟨k1, k2⟩ := key l
  exact ⟨by omega, fun b hb => by have := k2 b hb; omega⟩
end Go.Proofs.YtbbkkoeipkigdaaDoor

/- slices.Clone over rules; strings of rules of the call's own. -/
namespace Go.Proofs.YtbbkkoeipkigdaaDoor
open Go.RowKit Go.Shelf
set_option linter.unusedSimpArgs false
set_option linter.unusedVariables false

theorem info_rule : (Tryd.prog.info? 55).map (fun i => (i.zero, i.size, i.bytes)) = some (some (.agg #[.string ⟨#[]⟩, .string ⟨#[]⟩, .int .i64 0]), 3, 40) := by kernel_rfl
theorem rl_ln (x : Blk) : (blkCell x).length = 3 := rfl
theorem rl_one (x : Blk) : ∀ u ∈ blkCell x, u.oneCell' = true := by
  intro u hu
  simp only [blkCell, List.mem_cons, List.mem_nil_iff, or_false] at hu
  rcases hu with rfl | rfl | rfl <;> rfl
theorem own_litR (w : World) (b : Nat) (hb : b ≤ w.heap.size) : (w.alloc (.cells #[] 55)).ownsRow b 55 3 (.slice (some ⟨w.heap.size, 0, none⟩) 0 0) 0 [] :=
  ⟨by simp, .inr ⟨w.heap.size, 0, #[], rfl, hb, heap_alloc_new w _, Nat.le_refl _, by simp [maxLen], by simp, by simp⟩⟩
set_option maxRecDepth 100000 in
set_option maxHeartbeats 4000000 in
/-- A copy, in memory of the call's own. -/
theorem clone_rules (A : Option Addr) (n c : Nat) (l : List Blk) (w : World) (hn : l.length = n) (hu : BRuns w (.slice A n c) l) (hl : n ≤ 2000000) :
    Calls Tryd.prog 43 #[.slice A n c] w fun e w' => ∃ v, e = .returned v ∧ w'.ownsRow w.heap.size 55 3 v n (gCells blkCell l) ∧ Below w.heap.size w w' := by
  have q22 : ∀ (w : World) (a : Option Addr) (n c n' c' : Nat), (binOp .eql 22 (.slice a n c) (.slice none n' c')).run Tryd.prog w = .ok (.bool a.isNone) w := fun w a n c n' c' => Lib.run_eql_slice_nil w _ _ a n c n' c' Tryd.underlying22
  cases A with
  | none =>
    have h0 : n = 0 := by
      obtain ⟨A', c', e, hc, ⟨_, h0⟩, _⟩ := hu
      obtain ⟨e1, e2, e3⟩ := Value.slice.inj e
      have := h0 e1.symm
      omega
    subst h0
    have e0 : l = [] := List.eq_nil_of_length_eq_zero hn
    subst e0
    clear hu hn hl
    go_enter Tryd.func43, Tryd.ntmps43
    go_wp2
    go_ret
    exact ⟨_, rfl, World.ownsRow_nil _ _ _ _, Below.refl _ _⟩
  | some ad =>
    have hba := blw_one w (.cells #[] 55)
    obtain ⟨v7, w7, hrun7, hown7, hg7, hat7⟩ := append_many (P := Tryd.prog) rl_ln rl_one info_rule rfl (by decide) (by decide) Tryd.underlying22 _ w.heap.size _ 0 [] (own_litR w _ (Nat.le_refl _)) _ l (hu.below hba) (by simp) (by rw [hn]; omega)
    have hb7 : Below w.heap.size w w7 := hba.grown hg7 (by simp) (fun k hk => by simp [Value.ownBlock] at hk; omega)
    rw [hn] at hown7
    have H7 := Lib.hid hrun7; have HO := Lib.hid hown7; have HB := Lib.hid hb7
    clear hrun7 hown7 hg7 hat7 hb7 hba hu
    go_enter Tryd.func43, Tryd.ntmps43
    go_wp2_with (at_builtin; refine wpList_append_run (.tmp 5) (.tmp 6) 22 _ _ _ _ H7.out rfl rfl rfl rfl ?_)
    go_ret
    exact ⟨_, rfl, by simpa using HO.out, HB.out⟩
end Go.Proofs.YtbbkkoeipkigdaaDoor

/- Arguments of layer 7 opened: a slice of rules, a rule by value. -/
namespace Go.Proofs.YtbbkkoeipkigdaaDoor
open Go.ChangeShapes Go.WideShapes Go.ChangeAt Go.RowKit Go.Shelf Go.Deep Go.Joins
set_option linter.unusedSimpArgs false
set_option linter.unusedVariables false

theorem rlFields : ∃ f0 f1 f2 : Field, Tryd.prog.underlying 55 = some (.struct #[f0, f1, f2]) ∧ f0.type = 9 ∧ f0.offset = 0 ∧ f1.type = 9 ∧ f1.offset = 1 ∧ f2.type = 3 ∧ f2.offset = 2 :=
  ⟨_, _, _, Tryd.underlying55, rfl, rfl, rfl, rfl, rfl, rfl⟩
theorem cellsRl7 : Tryd.prog.cellsOf 55 = 3 := by kernel_rfl
set_option maxRecDepth 100000 in
theorem rl_of_cells {H : Type} {enc : TypeId × Value → H} {W : World} {fuel : Nat} {cs : List Value} {x : DataW H × List MemPlace} (h : DataW.trod enc Tryd.prog W 0 (fun _ => true) true fuel 55 cs = some x) : ∃ p : Blk, cs = blkCell p ∧ x.1 = blkD p := by
  obtain ⟨f0, f1, f2, hu, t0, o0, t1, o1, t2, o2⟩ := rlFields
  obtain ⟨xs, n, _, hx, hlen, hxl, hf⟩ := DataW.trod_struct hu h
  rw [cellsRl7] at hlen
  have h0 := hf 0 f0 rfl
  have h1 := hf 1 f1 rfl
  have h2 := hf 2 f2 rfl
  rw [t0, o0, cellsStr6] at h0
  rw [t1, o1, cellsStr6] at h1
  rw [t2, o2, cellsInt6] at h2
  have hx3 : xs.length = 3 := hxl
  match cs, hlen, xs, hx3 with
  | [c0, c1, c2], _, [x0, x1, x2], _ =>
    obtain ⟨a0, e0, d0, _⟩ := DataW.trod_string Tryd.underlying9 h0
    obtain ⟨a1, e1, d1, _⟩ := DataW.trod_string Tryd.underlying9 h1
    obtain ⟨a2, e2, d2, _⟩ := DataW.trod_int Tryd.underlying3 h2
    simp at e0 e1 e2 d0 d1 d2
    refine ⟨(a0, a1, a2), by rw [e0, e1, e2]; rfl, ?_⟩
    rw [hx]
    simp [blkD, d0, d1, d2]
set_option maxRecDepth 100000 in
theorem rls_of_arg {H : Type} {enc : TypeId × Value → H} {W : World} {base : Nat} {v : Value} {d : DataW H} {p : List MemPlace} (hv : Value.okWide Tryd.prog W .any base 22 v) (h : DataW.Trod enc Tryd.prog W 0 (fun _ => true) true 22 v d p) :
    ∃ l : List Blk, BRuns W v l ∧ ((d = .nil ∧ l = []) ∨ ∃ sp, d = .slice (l.map blkD) sp) := by
  obtain ⟨a0, len, cap, rfl⟩ := okWide_slice Tryd.underlying22 hv
  obtain ⟨fuel, hf⟩ := h
  exact gruns_of_trod (ByteArray.empty, ByteArray.empty, 0) (by decide) Tryd.underlying22 cellsRl7 (fun _ => rfl) (fun h => rl_of_cells h) hf
/-- The form's own bound on each text. -/
theorem rls_weights {H : Type} {d : DataW H} {l : List Blk} (hd : (d = .nil ∧ l = []) ∨ ∃ sp, d = .slice (l.map blkD) sp) (hw : (DataW.weights Tryd.prog 22 d).all (· ≤ reachBytes) = true) : szM l := by
  have h3 : reachBytes = 140737488351232 := by decide
  rcases hd with ⟨_, rfl⟩ | ⟨sp, rfl⟩
  · exact fun b hb => by simp at hb
  simp only [DataW.weights, Tryd.underlying22, List.all_cons, List.all_append, Bool.and_eq_true] at hw
  have hw2 := hw.2.1
  clear hw
  induction l with
  | nil => exact fun b hb => by simp at hb
  | cons a l ih =>
    simp only [List.map_cons, DataW.weightsAll, List.all_append, Bool.and_eq_true] at hw2
    have h1 := hw2.1
    simp only [blkD, DataW.weights, Tryd.underlying55, List.map_cons, List.map_nil, DataW.weightsEach, List.all_append, List.all_cons, List.all_nil, Bool.and_true, Bool.and_eq_true, decide_eq_true_eq, h3] at h1
    intro b hb
    rcases List.mem_cons.1 hb with rfl | hb
    · rw [Lib.size_eq, Lib.size_eq]; omega
    · exact ih hw2.2 b hb
set_option maxRecDepth 100000 in
theorem rul_of_arg {H : Type} {enc : TypeId × Value → H} {W : World} {base : Nat} {v : Value} {d : DataW H} {p : List MemPlace} (hv : Value.okWide Tryd.prog W .any base 55 v) (h : DataW.Trod enc Tryd.prog W 0 (fun _ => true) true 55 v d p) :
    ∃ b : Blk, v = .agg #[.string b.1, .string b.2.1, .int .i64 b.2.2] ∧ d = .agg [.lit (.string b.1.data.toList), .lit (.string b.2.1.data.toList), .lit (.int .i64 b.2.2)] := by
  obtain ⟨j0, j1, j2, y0, y1, y2, nn, rfl, rfl, _, g0, g1, g2⟩ := open_agg3 Tryd.underlying55 (by kernel_rfl) (by kernel_rfl) hv h
  obtain ⟨a0, e0, e0', _⟩ := DataW.trod_string Tryd.underlying9 g0
  obtain ⟨a1, e1, e1', _⟩ := DataW.trod_string Tryd.underlying9 g1
  obtain ⟨a2, e2, e2', _⟩ := DataW.trod_int Tryd.underlying3 g2
  obtain rfl : j0 = .string a0 := by simpa using e0
  obtain rfl : j1 = .string a1 := by simpa using e1
  obtain rfl : j2 = .int .i64 a2 := by simpa using e2
  exact ⟨(a0, a1, a2), rfl, by rw [e0', e1', e2']⟩
theorem rul_weights {H : Type} {b : Blk} (hw : (DataW.weights (H := H) Tryd.prog 55 (.agg [.lit (.string b.1.data.toList), .lit (.string b.2.1.data.toList), .lit (.int .i64 b.2.2)])).all (· ≤ reachBytes) = true) : b.1.size ≤ 140737488355328 ∧ b.2.1.size ≤ 140737488355328 := by
  have h3 : reachBytes = 140737488351232 := by decide
  simp only [DataW.weights, Tryd.underlying55, List.map_cons, List.map_nil, DataW.weightsEach, List.all_append, List.all_cons, List.all_nil, Bool.and_true, Bool.and_eq_true, decide_eq_true_eq, h3] at hw
  rw [Lib.size_eq, Lib.size_eq]; omega
/-- The second form's bound: each block is four at least. -/
theorem blks_bulk4 {H : Type} {d : DataW H} {l : List Blk} (hd : (d = .nil ∧ l = []) ∨ ∃ sp, d = .slice (l.map blkD) sp) (hw : Rows.uptoBulk d ≤ 1048576) : l.length ≤ 1000000 ∧ szL l := by
  refine ⟨?_, (blks_bulk hd hw).2⟩
  rcases hd with ⟨_, rfl⟩ | ⟨sp, rfl⟩
  · simp
  simp only [Rows.uptoBulk] at hw
  have key : ∀ l : List Blk, l.length * 4 ≤ Rows.uptoBulkAll (l.map (blkD (H := H))) := by
    intro l
    induction l with
    | nil => simp
    | cons a l ih =>
      have e : Rows.uptoBulkAll ((a :: l).map (blkD (H := H))) = a.1.data.toList.length + 1 + (a.2.1.data.toList.length + 1 + (1 + 0)) + 1 + Rows.uptoBulkAll (l.map (blkD (H := H))) := rfl
      rw [e, List.length_cons]; omega
  have := key l
  omega
end Go.Proofs.YtbbkkoeipkigdaaDoor

