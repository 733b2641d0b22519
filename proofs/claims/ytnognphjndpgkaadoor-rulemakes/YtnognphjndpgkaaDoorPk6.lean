/- Texts that several proofs of this seat share, one behind the other: DEach GenApp CGatP. -/
import Derived.Test.YtnognphjndpgkaaDoorPk4
import Derived.Test.YtnognphjndpgkaaDoorPk5
/- count.each, sum, Check, Total: what each answers. -/
namespace Go.Proofs.YtnognphjndpgkaaDoor
open Go.RowKit Go.Shelf
set_option linter.unusedSimpArgs false
set_option linter.unusedVariables false

/-- Blocks whose texts are no longer than so much. -/
def szL (l : List Blk) : Prop := ∀ b ∈ l, b.1.size ≤ 2000000 ∧ b.2.1.size ≤ 2000000
theorem szL_of {l : List Blk} (h : szB l) : szL l := fun b hb => by have := h b hb; omega
theorem sumN_take_le {l : List Blk} (h : posN l) (k : Nat) : sumN (l.take k) ≤ sumN l := by
  have e : sumN l = sumN (l.take k) + sumN (l.drop k) := by rw [← sumN_append, List.take_append_drop]
  have := sumN_nonneg (l := l.drop k) (fun b hb => h b (List.mem_of_mem_drop hb))
  omega

set_option maxRecDepth 100000 in
set_option maxHeartbeats 8000000 in
theorem each_any (u : Value) (l : List Blk) (w : World) (hO : Okw w) (hu : BRuns w u l) (hl : l.length ≤ 2000000) (hz : szL l) :
    Calls Tryd.prog 59 #[u] w fun e w' => e = .returned (.int .i64 (chkAll l)) ∧ Below w.heap.size w w' := by
  obtain ⟨A, c, e⟩ := hu.slice
  subst e
  have HU := Lib.hid hu; clear hu
  have HOK := Lib.hid hO; clear hO
  obtain ⟨n, hn⟩ : ∃ n, l.length = n := ⟨_, rfl⟩
  obtain ⟨res, hres⟩ : ∃ r, chkAll l = r := ⟨_, rfl⟩
  rw [hres]
  have HT := Lib.hid hres; clear hres
  rw [hn] at hl HU ⊢
  have HN := Lib.hid hn; clear hn
  have HZ := Lib.hid hz; clear hz
  have C5 : Hid (∀ b : Blk, b.1.size ≤ 2000000 → b.2.1.size ≤ 2000000 → ChkAt b) := Lib.hid (fun b h1 h2 => chk_at b (by omega) (by omega))
  go_enter Tryd.func59, Tryd.ntmps59
  go_wp2
  go_loopw [8] (fun s8 wr => ∃ k : Nat, k ≤ n ∧ s8 = .int .i64 k ∧ Hid (chkAll (l.take k) = 0) ∧ Hid (Below w.heap.size w wr)) (fun s8 _ => n - (RowKit.intOf s8).toNat)
  case atStart => exact ⟨0, Nat.zero_le _, rfl, Lib.hid rfl, Lib.hid (Below.refl _ _)⟩
  case round =>
    obtain ⟨k, hkn, rfl, HC, BW⟩ := hrel
    by_cases hk : k < n
    · have k1 : (k : Int) < (n : Int) := by omega
      obtain ⟨⟨p1, p2, p3⟩, hp⟩ : ∃ p, l[k]? = some p := ⟨_, List.getElem?_eq_getElem (by rw [HN.out]; exact hk)⟩
      obtain ⟨b, o, rfl, _, hc⟩ := (HU.out.below BW.out).cells HN.out (by omega)
      obtain ⟨g0, g1, g2⟩ := blk_cells hc hp
      simp only at g0 g1 g2
      have hz1 := HZ.out _ (List.mem_of_getElem? hp)
      have hch := chkAll_take k _ hp HC.out
      simp only at hz1
      obtain ⟨er, her⟩ : ∃ z, chkS (p1, p2, p3) = z := ⟨_, rfl⟩
      rw [her] at hch
      have HCH := Lib.hid hch
      have hal : Hid (Below w.heap.size w (wr.alloc (.cells #[.string p1, .string p2, .int .i64 p3] 40))) := Lib.hid (BW.out.alloc BW.out.size _)
      have c5 := C5.out (p1, p2, p3) hz1.1 hz1.2 (wr.alloc (.cells #[.string p1, .string p2, .int .i64 p3] 40)) (HOK.out.below hal.out)
      simp only [her] at c5
      have CC := Lib.hid c5
      clear hc hp hch c5 her
      go_wp2_with fail
      refine CC.out.mono ?_
      rintro e w5 ⟨rfl, b5⟩
      have B5 : Hid (Below w.heap.size w w5) := Lib.hid (hal.out.trans (b5.mono hal.out.size))
      clear b5
      by_cases h0 : er = 0
      · subst h0
        go_wp2
        exact ⟨⟨k + 1, by omega, by go_num, Lib.hid (HCH.out.1 (by first | rfl | trivial)), B5⟩, by simp [RowKit.intOf]; omega⟩
      · have h0' : (er == 0) = false := by simpa using h0
        have hr : Hid (res = er) := Lib.hid (by rw [← HT.out]; exact HCH.out.2 h0)
        go_wp2
        go_ret
        exact ⟨by rw [hr.out]; rfl, B5.out⟩
    · obtain rfl : k = n := by omega
      have hr : Hid (res = 0) := Lib.hid (by have := HC.out; rw [← HN.out, List.take_length] at this; rw [← HT.out]; exact this)
      clear HC
      go_wp2
      go_ret
      exact ⟨by rw [hr.out]; rfl, BW.out⟩

set_option maxRecDepth 100000 in
set_option maxHeartbeats 8000000 in
/-- The Ns together, where a table may have so many. -/
theorem sum_any (u : Value) (l : List Blk) (w : World) (hu : BRuns w u l) (hl : l.length ≤ 2000000) (hok : okN l) :
    Calls Tryd.prog 55 #[u] w fun e w' => ((sumN l ≤ 1073741824 ∧ e = .returned (.tuple #[.int .i64 (sumN l), .bool true])) ∨ (1073741824 < sumN l ∧ e = .returned (.tuple #[.int .i64 0, .bool false]))) ∧ Below w.heap.size w w' := by
  obtain ⟨A, c, e⟩ := hu.slice
  subst e
  have HU := Lib.hid hu; clear hu
  have hle := sumN_take_le (l := l) (fun b hb => (hok b hb).1)
  have h00 : ∀ k, 0 ≤ sumN (l.take k) := fun k => sumN_nonneg (fun b hb => (hok b (List.mem_of_mem_take hb)).1)
  obtain ⟨tot, htot⟩ : ∃ t, sumN l = t := ⟨_, rfl⟩
  have hfin : sumN (l.take l.length) = tot := by rw [List.take_length]; exact htot
  simp only [htot] at hle
  rw [htot]
  clear htot
  obtain ⟨n, hn⟩ : ∃ n, l.length = n := ⟨_, rfl⟩
  rw [hn] at hl HU hfin ⊢
  have HN := Lib.hid hn; clear hn
  obtain ⟨sm, hsm⟩ : ∃ f, f = fun k => sumN (l.take k) := ⟨_, rfl⟩
  have hst : ∀ k x, l[k]? = some x → sm (k + 1) = sm k + x.2.2 := fun k x hx => by rw [hsm]; exact sumN_take k x hx
  have hb' : ∀ k, 0 ≤ sm k ∧ sm k ≤ tot := fun k => by rw [hsm]; exact ⟨h00 k, hle k⟩
  have h0 : sm 0 = 0 := by rw [hsm]; simp [sumN]
  have hgo : sm n = tot := by rw [hsm]; exact hfin
  clear hfin hle h00 hsm
  have ST := Lib.hid hst; have BD := Lib.hid hb'; have OK := Lib.hid hok; have HGO := Lib.hid hgo
  clear hst hb' hok hgo
  go_enter Tryd.func55, Tryd.ntmps55
  go_wp2
  go_loopw [4, 9] (fun s4 s9 wr => ∃ k : Nat, k ≤ n ∧ s9 = .int .i64 k ∧ s4 = .int .i64 (sm k) ∧ sm k ≤ 1073741824 ∧ Hid (Below w.heap.size w wr)) (fun _ s9 _ => n - (RowKit.intOf s9).toNat)
  case atStart => exact ⟨0, Nat.zero_le _, rfl, by rw [h0], by rw [h0]; decide, Lib.hid (Below.refl _ _)⟩
  case round =>
    obtain ⟨k, hkn, rfl, rfl, hs, BW⟩ := hrel
    have bk := BD.out k
    obtain ⟨s, es⟩ : ∃ s, sm k = s := ⟨_, rfl⟩
    rw [es] at hs bk ⊢
    have HES := Lib.hid es; clear es
    by_cases hk : k < n
    · have k1 : (k : Int) < (n : Int) := by omega
      obtain ⟨⟨p1, p2, p3⟩, hp⟩ : ∃ p, l[k]? = some p := ⟨_, List.getElem?_eq_getElem (by rw [HN.out]; exact hk)⟩
      obtain ⟨b, o, rfl, _, hc⟩ := (HU.out.below BW.out).cells HN.out (by omega)
      obtain ⟨g0, g1, g2⟩ := blk_cells hc hp
      simp only at g0 g1 g2
      have hs1 := ST.out k _ hp
      have hN3 := OK.out _ (List.mem_of_getElem? hp)
      have bk1 := BD.out (k + 1)
      simp only at hs1 hN3
      rw [HES.out] at hs1
      have HS1 := Lib.hid hs1
      rw [hs1] at bk1
      have hal : Hid (Below w.heap.size w (wr.alloc (.cells #[.string p1, .string p2, .int .i64 p3] 40))) := Lib.hid (BW.out.alloc BW.out.size _)
      have hwr : IntKind.i64.wrap (1073741824 - s) = 1073741824 - s := by rw [IntKind.wrap_i64]; omega
      have hwr2 : IntKind.i64.wrap (s + p3) = s + p3 := by rw [IntKind.wrap_i64]; omega
      clear hc hp hs1
      by_cases hg : 1073741824 - s < p3
      · have BK := Lib.hid bk1; clear bk1
        go_wp2
        go_ret2
        exact ⟨.inr ⟨by have := BK.out; omega, rfl⟩, hal.out⟩
      · have HG := Lib.hid hg
        clear bk1
        go_wp2
        exact ⟨⟨k + 1, by omega, by go_num, by rw [HS1.out], by rw [HS1.out]; omega, hal⟩, by simp [RowKit.intOf]; omega⟩
    · obtain rfl : k = n := by omega
      have he : Hid (s = tot) := Lib.hid (by rw [← HES.out]; exact HGO.out)
      go_wp2
      go_ret2
      exact ⟨.inl ⟨by rw [← he.out]; exact hs, by rw [← he.out]; rfl⟩, BW.out⟩

set_option maxRecDepth 100000 in
set_option maxHeartbeats 8000000 in
theorem check6_any (u : Value) (l : List Blk) (w : World) (hO : Okw w) (hu : BRuns w u l) (hl : l.length ≤ 2000000) (hz : szL l) :
    Calls Tryd.prog 45 #[u] w fun e w' => e = .returned (.int .i64 (chkT l)) ∧ Below w.heap.size w w' := by
  obtain ⟨A, c, e⟩ := hu.slice
  subst e
  have ce := fun w hO hu => each_any (.slice A l.length c) l w hO hu hl hz
  have cs := fun w hu hok => sum_any (.slice A l.length c) l w hu hl hok
  have HU := Lib.hid hu; clear hu
  have HOK := Lib.hid hO; clear hO
  obtain ⟨n, hn⟩ : ∃ n, l.length = n := ⟨_, rfl⟩
  have hT : chkT l = if chkAll l = 0 then (if ordB l then (if 4096 < n ∨ 1073741824 < sumN l then 6 else 0) else 7) else chkAll l := by rw [chkT, hn]
  obtain ⟨res, hres⟩ : ∃ r, chkT l = r := ⟨_, rfl⟩
  obtain ⟨ea, hea⟩ : ∃ r, chkAll l = r := ⟨_, rfl⟩
  obtain ⟨tot, htot⟩ : ∃ r, sumN l = r := ⟨_, rfl⟩
  have HK : Hid (ea = 0 → okN l) := Lib.hid (fun h => okN_of (by rw [hea]; exact h))
  rw [hres] at hT ⊢
  simp only [hea, hn] at ce
  simp only [htot, hn] at cs
  rw [hea, htot] at hT
  have HT := Lib.hid hT; clear hT hres hea htot
  rw [hn] at hl HU ⊢
  have HN := Lib.hid hn; clear hn
  have CE := Lib.hid ce; have CS := Lib.hid cs; clear ce cs hz
  have CL := Lib.hid less_any
  go_enter Tryd.func45, Tryd.ntmps45
  go_wp2_with fail
  refine (CE.out _ HOK.out HU.out).mono ?_
  rintro e w1 ⟨rfl, b1⟩
  have B1 := Lib.hid b1; clear b1
  by_cases h0 : ea = 0
  · subst h0
    go_wp2
    go_loopw [4] (fun s4 wr => ∃ j : Nat, 1 ≤ j ∧ (j ≤ n ∨ j = 1) ∧ s4 = .int .i64 j ∧ Hid (ordB (l.take j) = true) ∧ Hid (Below w.heap.size w wr)) (fun s4 _ => n - (RowKit.intOf s4).toNat)
    case atStart => exact ⟨1, Nat.le_refl _, .inr rfl, rfl, Lib.hid (ordB_one l), B1⟩
    case round =>
      obtain ⟨j, hj1, hjn, rfl, HO, BW2⟩ := hrel
      by_cases hj : j < n
      · have j1 : (j : Int) < (n : Int) := by omega
        obtain ⟨i, hi⟩ : ∃ i : Nat, (j : Int) - 1 = (i : Int) := ⟨j - 1, by omega⟩
        have ei : j = i + 1 := by omega
        have EI := Lib.hid ei
        obtain ⟨⟨y1, y2, y3⟩, hy⟩ : ∃ p, l[i]? = some p := ⟨_, List.getElem?_eq_getElem (by rw [HN.out]; omega)⟩
        obtain ⟨⟨x1, x2, x3⟩, hx⟩ : ∃ p, l[j]? = some p := ⟨_, List.getElem?_eq_getElem (by rw [HN.out]; omega)⟩
        have RW := Lib.hid (HU.out.below BW2.out)
        obtain ⟨b, o, rfl, hblt, hc⟩ := RW.out.cells HN.out (by omega)
        obtain ⟨g0, g1, g2⟩ := blk_cells hc hy
        obtain ⟨g3, g4, g5⟩ := blk_cells hc hx
        simp only at g0 g1 g2 g3 g4 g5
        have hor := ordB_take i (y1, y2, y3) (x1, x2, x3) hy (by rw [← ei]; exact hx) (by rw [← ei]; exact HO.out)
        have c5 := fun w => CL.out y1 y2 x1 x2 y3 x3 w
        obtain ⟨le, hle⟩ : ∃ z, lessB (y1, y2, y3) (x1, x2, x3) = z := ⟨_, rfl⟩
        simp only [hle] at c5 hor
        have HOR := Lib.hid hor; have C := Lib.hid c5
        clear hc hy hx hor c5 hle ei HO
        have i0 : (0 : Int) < (j : Int) := by omega
        have i1 : (i : Int) < (n : Int) := by omega
        have hwr : IntKind.i64.wrap ((j : Int) - 1) = (i : Int) := by rw [IntKind.wrap_i64]; omega
        have hwi : IntKind.i64.wrap (i : Int) = (i : Int) := by rw [IntKind.wrap_i64]; omega
        have i2 : (0 : Int) ≤ (i : Int) := by omega
        have KD : Hid (KRow w b (o + i * 3) (o + j * 3) (y1, y2, y3) (x1, x2, x3) wr.drew) := Lib.hid ⟨g0, g1, g2, g3, g4, g5, hblt, BW2.out.drew⟩
        go_wp2
        go_region_held3 (fun w' => w'.cell? ⟨b, o + i * 3, none⟩ = some (.string y1) ∧ w'.cell? ⟨b, o + i * 3 + 1, none⟩ = some (.string y2) ∧ w'.cell? ⟨b, o + i * 3 + 2, none⟩ = some (.int .i64 y3) ∧ w'.cell? ⟨b, o + j * 3, none⟩ = some (.string x1) ∧ w'.cell? ⟨b, o + j * 3 + 1, none⟩ = some (.string x2) ∧ w'.cell? ⟨b, o + j * 3 + 2, none⟩ = some (.int .i64 x3) ∧ Hid (KRow w b (o + i * 3) (o + j * 3) (y1, y2, y3) (x1, x2, x3) w'))
          (first | exact ⟨g0, g1, g2, g3, g4, g5, KD⟩ | exact ⟨HKn.out.a0, HKn.out.a1, HKn.out.a2, HKn.out.b0, HKn.out.b1, HKn.out.b2, HKn⟩ | go_keep)
          (first
            | (go_at_call 30; refine (C.out _).mono ?_; rintro e w4 ⟨rfl, hb4⟩; have HKn := Lib.hid ((by assumption : Hid (KRow w b (o + i * 3) (o + j * 3) (y1, y2, y3) (x1, x2, x3) _)).out.step hb4); clear hb4))
        rename_i hHeld
        clear hHeld
        have B4 : Hid (Below w.heap.size w w4) := Lib.hid HKn.out.bel
        cases le
        · have hr : Hid (res = 7) := Lib.hid (by rw [HT.out, if_pos (by first | rfl | trivial), if_neg (by rw [HOR.out.2 rfl]; simp)])
          go_wp2
          go_ret
          exact ⟨by rw [hr.out]; rfl, B4.out⟩
        · go_wp2
          exact ⟨⟨j + 1, by omega, by omega, by go_num, Lib.hid (by have := HOR.out.1 rfl; rwa [← EI.out] at this), B4⟩, by simp [RowKit.intOf]; omega⟩
      · have hj' : ¬ (j : Int) < (n : Int) := by omega
        have HO0 : Hid (ordB l = true) := Lib.hid (by have := HO.out; rwa [List.take_of_length_le (by rw [HN.out]; omega)] at this)
        clear HO B1
        have U2 := Lib.hid (HU.out.below BW2.out)
        go_wp2_with fail
        refine (CS.out _ U2.out (HK.out (by first | rfl | trivial))).mono ?_
        rintro e w3 ⟨hc3, b3⟩
        have B3 : Hid (Below w.heap.size w w3) := Lib.hid (BW2.out.trans (b3.mono BW2.out.size))
        clear b3
        rcases hc3 with ⟨ht, rfl⟩ | ⟨ht, rfl⟩
        · by_cases hbig : 4096 < n
          · have hb1 : (4096 : Int) < (n : Int) := by omega
            have hr : Hid (res = 6) := Lib.hid (by rw [HT.out, if_pos (by first | rfl | trivial), if_pos HO0.out, if_pos (.inl hbig)])
            go_wp2
            go_ret
            exact ⟨by rw [hr.out]; rfl, B3.out⟩
          · have hb1 : ¬ (4096 : Int) < (n : Int) := by omega
            have hr : Hid (res = 0) := Lib.hid (by rw [HT.out, if_pos (by first | rfl | trivial), if_pos HO0.out, if_neg (by omega)])
            go_wp2
            go_ret
            exact ⟨by rw [hr.out]; rfl, B3.out⟩
        · have hr : Hid (res = 6) := Lib.hid (by rw [HT.out, if_pos (by first | rfl | trivial), if_pos HO0.out, if_pos (.inr ht)])
          go_wp2
          go_ret
          exact ⟨by rw [hr.out]; rfl, B3.out⟩
  · have h0' : (ea == 0) = false := by simpa using h0
    have hr : Hid (res = ea) := Lib.hid (by rw [HT.out, if_neg h0])
    go_wp2
    go_ret
    exact ⟨by rw [hr.out]; rfl, B1.out⟩

set_option maxRecDepth 100000 in
set_option maxHeartbeats 4000000 in
theorem total_any (u : Value) (l : List Blk) (w : World) (hO : Okw w) (hu : BRuns w u l) (hl : l.length ≤ 2000000) (hz : szL l) :
    Calls Tryd.prog 39 #[u] w fun e w' => e = .returned (.tuple #[.int .i64 (totS l), .int .i64 (chkT l)]) ∧ Below w.heap.size w w' := by
  obtain ⟨A, c, e⟩ := hu.slice
  subst e
  have ce := fun w hO hu => check6_any (.slice A l.length c) l w hO hu hl hz
  have cs := fun w hu hok => sum_any (.slice A l.length c) l w hu hl hok
  have HU := Lib.hid hu; clear hu
  have HOK := Lib.hid hO; clear hO
  have hT : totS l = if chkT l = 0 then sumN l else 0 := rfl
  obtain ⟨res, hres⟩ : ∃ r, totS l = r := ⟨_, rfl⟩
  obtain ⟨ea, hea⟩ : ∃ r, chkT l = r := ⟨_, rfl⟩
  obtain ⟨tot, htot⟩ : ∃ r, sumN l = r := ⟨_, rfl⟩
  have HK : Hid (ea = 0 → okN l ∧ tot ≤ 1073741824) := Lib.hid (fun h => by
    have := chkT_facts (l := l) (by rw [hea]; exact h)
    exact ⟨okN_of this.1, by rw [← htot]; exact this.2.2.2⟩)
  rw [hres] at hT ⊢
  rw [hea] at hT ⊢
  rw [htot] at hT
  simp only [hea] at ce
  simp only [htot] at cs
  have HT := Lib.hid hT; clear hT hres hea htot
  obtain ⟨n, hn⟩ : ∃ n, l.length = n := ⟨_, rfl⟩
  simp only [hn] at ce cs
  rw [hn] at hl HU ⊢
  have CE := Lib.hid ce; have CS := Lib.hid cs; clear ce cs hz hn
  go_enter Tryd.func39, Tryd.ntmps39
  go_wp2_with fail
  refine (CE.out _ HOK.out HU.out).mono ?_
  rintro e w1 ⟨rfl, b1⟩
  have U1 := Lib.hid (HU.out.below b1)
  have B1 := Lib.hid b1; clear b1
  by_cases h0 : ea = 0
  · subst h0
    have hk := HK.out (by first | rfl | trivial)
    have HK1 := Lib.hid hk.1
    have hk2 := hk.2
    clear hk
    go_wp2_with fail
    refine (CS.out _ U1.out HK1.out).mono ?_
    rintro e w3 ⟨hc3, b3⟩
    have B3 : Hid (Below w.heap.size w w3) := Lib.hid (B1.out.trans (b3.mono B1.out.size))
    clear b3
    rcases hc3 with ⟨ht, rfl⟩ | ⟨ht, rfl⟩
    · have hr : Hid (res = tot) := Lib.hid (by rw [HT.out, if_pos (by first | rfl | trivial)])
      go_wp2
      go_ret2
      exact ⟨by rw [hr.out]; rfl, B3.out⟩
    · exact absurd ht (by omega)
  · have h0' : (ea == 0) = false := by simpa using h0
    have hr : Hid (res = 0) := Lib.hid (by rw [HT.out, if_neg h0])
    go_wp2
    go_ret2
    exact ⟨by rw [hr.out]; rfl, B1.out⟩
end Go.Proofs.YtnognphjndpgkaaDoor

/- append(v, u...) onto a row of the call's own, for rows of any structs. -/
namespace Go.Proofs.YtnognphjndpgkaaDoor
open Go.RowKit

theorem append_many {P : Program} {α : Type} {enc : α → List Value} {k bytes : Nat} {tS tE : TypeId} {z : Value} (hk : ∀ x, (enc x).length = k) (h1 : ∀ x, ∀ u ∈ enc x, u.oneCell' = true) (hinfo : (P.info? tE).map (fun i => (i.zero, i.size, i.bytes)) = some (some z, k, bytes)) (hzl : z.cells.size = k) (hk0 : 0 < bytes) (hk1 : 0 < k)
    (hU : P.underlying tS = some (.slice tE)) (w : World) (base : Nat) (v : Value) (n : Nat) (xs : List Value) (hown : w.ownsRow base tE k v n xs) (u : Value) (ys : List α) (hu : GRuns enc k w u ys) (hbase : base ≤ w.heap.size) (hlen : (n + ys.length) * bytes ≤ 140737488355328) :
    ∃ v' w', (Builtin.append_ #[tS, tS] tS #[v, u]).run P w = .ok v' w' ∧ w'.ownsRow base tE k v' (n + ys.length) (xs ++ gCells enc ys) ∧
      w.grownBy w' v.ownBlock ∧ (v'.ownBlock = v.ownBlock ∨ v'.ownBlock = some w.heap.size) := by
  obtain ⟨i0, hi, hz0, hz1, hz2⟩ := info_parts hinfo
  obtain ⟨A, c, rfl, hxc, ⟨hxm, hc0⟩, hxx⟩ := hu
  cases A with
  | none =>
    obtain rfl := hc0 rfl
    have h0 : ys = [] := List.eq_nil_of_length_eq_zero (by omega)
    subst h0
    exact ⟨v, w, run_append_owned_none (P := P) (w := w) base tS tS tE i0 k hU hi v n xs hown, by simpa [gCells] using hown, World.grownBy.refl w _, .inl rfl⟩
  | some ad =>
    have hcells : ∀ j u, (gCells enc ys)[j]? = some u → w.cell? (ad.add j) = some u := by
      intro j u hj
      have hjl : j < (gCells enc ys).length := (List.getElem?_eq_some_iff.1 hj).1
      rw [gCells_len hk] at hjl
      have hq : j / k < ys.length := (Nat.div_lt_iff_lt_mul hk1).2 hjl
      obtain ⟨b, o, e, _, hc⟩ := hxx (Nat.lt_of_le_of_lt (Nat.zero_le _) hq)
      have e := Option.some.inj e
      subst e
      obtain ⟨x, hx⟩ : ∃ x, ys[j / k]? = some x := ⟨_, List.getElem?_eq_getElem hq⟩
      have h3 := gCells_at hk ys (j / k) (j % k) x hx (Nat.mod_lt _ hk1)
      have hdm : j / k * k + j % k = j := by rw [Nat.mul_comm]; exact Nat.div_add_mod j k
      rw [hdm, hj] at h3
      have h4 := hc (j / k) x hx (j % k) u h3.symm
      have ea : (⟨b, o, none⟩ : Addr).add j = ⟨b, o + j / k * k + j % k, none⟩ := by rw [Nat.add_assoc, hdm]; unfold Addr.add; simp <;> omega
      rw [ea]; exact h4
    have hone : ∀ u ∈ gCells enc ys, u.oneCell' = true := by
      intro u hu
      obtain ⟨p, _, hp⟩ := List.mem_flatMap.1 hu
      exact h1 p u hp
    obtain ⟨v', w', hrun, h2, h3, _, h5⟩ := run_append_own_at (P := P) w base tS tS tE i0 z k bytes hU hi hz0 hz1 hz2 hzl hk1 v n xs hown ad ys.length c (gCells enc ys) (gCells_len hk ys) hcells hone
      (by have : n + ys.length ≤ (n + ys.length) * bytes := Nat.le_mul_of_pos_right _ hk0; unfold maxLen; omega) hlen hbase
    exact ⟨v', w', hrun, h2, h3, h5⟩
end Go.Proofs.YtnognphjndpgkaaDoor

/- A block more among blocks in order, by its place, plain; parts of a slice of blocks. -/
namespace Go.Proofs.YtnognphjndpgkaaDoor
open Go.RowKit Go.Shelf

/-- Where a block comes: behind all that stand ahead of it. -/
theorem ins_at (b : Blk) (out : List Blk) (k : Nat) (h1 : ∀ j y, j < k → out[j]? = some y → lessB y b = true) (h2 : k ≤ out.length) (h3 : ∀ y, out[k]? = some y → lessB y b = false) :
    (∀ x, out[k]? = some x → sameS x b → insB b out = out.set k (x.1, x.2.1, x.2.2 + b.2.2)) ∧ ((∀ x, out[k]? = some x → ¬ sameS x b) → insB b out = out.take k ++ [b] ++ out.drop k) := by
  induction out generalizing k with
  | nil =>
    obtain rfl : k = 0 := by simpa using h2
    refine ⟨fun x hx => by simp at hx, fun _ => by simp [insB]⟩
  | cons a out ih =>
    cases k with
    | zero =>
      have ha := h3 a (by simp)
      have ha' : ¬ lessB a b = true := by rw [ha]; simp
      refine ⟨fun x hx hs => ?_, fun hn => ?_⟩
      · obtain rfl : a = x := by simpa using hx
        rw [insB, if_neg ha', if_pos hs]; rfl
      · rw [insB, if_neg ha', if_neg (hn a (by simp))]; rfl
    | succ k =>
      have ha := h1 0 a (by omega) (by simp)
      obtain ⟨i1, i2⟩ := ih k (fun j y hj hy => h1 (j + 1) y (by omega) (by simpa using hy)) (by simpa using h2) (fun y hy => h3 y (by simpa using hy))
      refine ⟨fun x hx hs => ?_, fun hn => ?_⟩
      · rw [insB, if_pos ha, i1 x (by simpa using hx) hs]; rfl
      · rw [insB, if_pos ha, i2 (fun x hx => hn x (by simpa using hx))]; simp
/-- A cell of a row of blocks turned. -/
theorem gCells_setN (out : List Blk) (k : Nat) (x : Blk) (v : Int) (h : out[k]? = some x) : (gCells blkCell out).set (k * 3 + 2) (.int .i64 v) = gCells blkCell (out.set k (x.1, x.2.1, v)) := by
  induction out generalizing k with
  | nil => simp at h
  | cons a out ih =>
    cases k with
    | zero =>
      obtain rfl : a = x := by simpa using h
      rfl
    | succ k =>
      have := ih k (by simpa using h)
      show (blkCell a ++ gCells blkCell out).set ((k + 1) * 3 + 2) _ = blkCell a ++ gCells blkCell (out.set k _)
      rw [← this, show (k + 1) * 3 + 2 = (k * 3 + 2) + 3 by omega]
      rfl
/-- Parts of a slice. -/
theorem GRuns.front {α : Type} {enc : α → List Value} {k : Nat} {w : World} {A : Option Addr} {n c : Nat} {l : List α} (h : GRuns enc k w (.slice A n c) l) (hn : l.length = n) (m : Nat) (hm : m ≤ n) : GRuns enc k w (.slice A m c) (l.take m) := by
  obtain ⟨A', c', e, hc, hmx, hx⟩ := h
  rw [hn] at e hc hx
  obtain ⟨rfl, _, rfl⟩ := Value.slice.inj e
  have hl : (l.take m).length = m := by rw [List.length_take]; omega
  refine ⟨A, c, by rw [hl], by rw [hl]; omega, hmx, fun h0 => ?_⟩
  rw [hl] at h0
  obtain ⟨b, o, e2, hlt, hcell⟩ := hx (by omega)
  exact ⟨b, o, e2, hlt, fun j x hj i u hu => hcell j x (by rw [List.getElem?_take] at hj; split at hj; exact hj; cases hj) i u hu⟩
theorem GRuns.back {α : Type} {enc : α → List Value} {k : Nat} {w : World} {b o n c : Nat} {l : List α} (h : GRuns enc k w (.slice (some ⟨b, o, none⟩) n c) l) (hn : l.length = n) (m : Nat) (hm : m < n) : GRuns enc k w (.slice (some ⟨b, o + m * k, none⟩) (n - m) (c - m)) (l.drop m) := by
  obtain ⟨A', c', e, hc, ⟨hmx, _⟩, hx⟩ := h
  rw [hn] at e hc hx
  obtain ⟨e1, _, rfl⟩ := Value.slice.inj e
  have hl : (l.drop m).length = n - m := by rw [List.length_drop]; omega
  refine ⟨some ⟨b, o + m * k, none⟩, c - m, by rw [hl], by rw [hl]; omega, ⟨by omega, fun h => by cases h⟩, fun h0 => ?_⟩
  obtain ⟨b', o', e2, hlt, hcell⟩ := hx (by omega)
  have e3 := Option.some.inj (e1.trans e2)
  simp only [Addr.mk.injEq] at e3
  obtain ⟨rfl, rfl, _⟩ := e3
  refine ⟨b, o + m * k, rfl, hlt, fun j x hj i u hu => ?_⟩
  have := hcell (m + j) x (by rwa [List.getElem?_drop] at hj) i u hu
  rwa [show o + (m + j) * k + i = o + m * k + j * k + i by rw [Nat.add_mul]; omega] at this
theorem GRuns.none_ {α : Type} {enc : α → List Value} {k : Nat} {w : World} {A : Option Addr} {c : Nat} (hc : c ≤ maxLen) (hA : A = none → c = 0) : GRuns enc k w (.slice A 0 c) [] := ⟨A, c, rfl, Nat.zero_le _, ⟨hc, hA⟩, fun h => absurd h (by simp)⟩
end Go.Proofs.YtnognphjndpgkaaDoor

