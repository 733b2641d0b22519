/- Texts that several proofs of this seat share, one behind the other: CRef CRef2 HRng TSeq HRows HBlocks. -/
import Derived.Test.YtnognphjndpgkaaGreatDoorPk8
import Derived.BigQuiet
import Derived.Deep.RegionHeld3
import Derived.RangeFuncNested
import Derived.RangeFuncLeaves
import Derived.Test.YtnognphjndpgkaaGreatDoorPk2
import Derived.WalkMore
import Derived.BigRegion
import Derived.Test.YtnognphjndpgkaaGreatDoorPk7
/- errataref06.Sum, Check, Total, Find: what each answers. -/
namespace Go.Proofs.YtnognphjndpgkaaGreatDoor
open Go.RowKit Go.Shelf

/-- Blocks whose Ns may be. -/
def okN (l : List Blk) : Prop := ∀ b ∈ l, 1 ≤ b.2.2 ∧ b.2.2 ≤ 1073741824
theorem okN_of {l : List Blk} (h : chkAll l = 0) : okN l := fun b hb => chkS_n (chkAll_zero.1 h b hb)
theorem sumN_take {l : List Blk} (k : Nat) (x : Blk) (h : l[k]? = some x) : sumN (l.take (k + 1)) = sumN (l.take k) + x.2.2 := by
  rw [List.take_add_one, h, sumN_append]; simp [sumN]
theorem sumN_bound {l : List Blk} (h : okN l) (k : Nat) : 0 ≤ sumN (l.take k) ∧ sumN (l.take k) ≤ (k : Int) * 1073741824 := by
  induction k with
  | zero => simp [sumN]
  | succ k ih =>
    cases hx : l[k]? with
    | none => rw [List.take_add_one, hx]; simp; omega
    | some x =>
      have := h x (List.mem_of_getElem? hx)
      rw [sumN_take k x hx]; omega

set_option maxRecDepth 100000 in
set_option maxHeartbeats 4000000 in
theorem refSum_any (u : Value) (l : List Blk) (w : World) (hu : BRuns w u l) (hl : l.length ≤ 1000000) (hok : okN l) :
    Calls Tryz.prog 26 #[u] w fun e w' => e = .returned (.int .i64 (sumN l)) ∧ Below w.heap.size w w' := by
  have hb := sumN_bound hok
  have hfin : sumN l = sumN (l.take l.length) := by rw [List.take_length]
  rw [hfin]
  clear hfin
  obtain ⟨A, c, e⟩ := hu.slice
  subst e
  have HU := Lib.hid hu; clear hu
  obtain ⟨n, hn⟩ : ∃ n, l.length = n := ⟨_, rfl⟩
  rw [hn] at hl HU ⊢
  have HN := Lib.hid hn; clear hn
  obtain ⟨sm, hsm⟩ : ∃ f, f = fun k => sumN (l.take k) := ⟨_, rfl⟩
  have hst : ∀ k x, l[k]? = some x → sm (k + 1) = sm k + x.2.2 := fun k x hx => by rw [hsm]; exact sumN_take k x hx
  have hb' : ∀ k, 0 ≤ sm k ∧ sm k ≤ (k : Int) * 1073741824 := fun k => by rw [hsm]; exact hb k
  have h0 : sm 0 = 0 := by rw [hsm]; simp [sumN]
  have hgo : sumN (l.take n) = sm n := by rw [hsm]
  rw [hgo]
  clear hgo hb hsm
  have ST := Lib.hid hst; have BD := Lib.hid hb'; have OK := Lib.hid hok
  clear hst hb' hok
  go_enter Tryz.func26, Tryz.ntmps26
  go_wp2
  go_loopw [3, 8] (fun s3 s8 wr => ∃ k : Nat, k ≤ n ∧ s8 = .int .i64 k ∧ s3 = .int .i64 (sm k) ∧ Hid (Below w.heap.size w wr)) (fun _ s8 _ => n - (RowKit.intOf s8).toNat)
  case atStart => exact ⟨0, Nat.zero_le _, rfl, by rw [h0], Lib.hid (Below.refl _ _)⟩
  case round =>
    obtain ⟨k, hkn, rfl, rfl, BW⟩ := hrel
    have bk := BD.out k
    by_cases hk : k < n
    · have k1 : (k : Int) < (n : Int) := by omega
      obtain ⟨⟨p1, p2, p3⟩, hp⟩ : ∃ p, l[k]? = some p := ⟨_, List.getElem?_eq_getElem (by rw [HN.out]; exact hk)⟩
      obtain ⟨b, o, rfl, _, hc⟩ := (HU.out.below BW.out).cells HN.out (by omega)
      obtain ⟨g0, g1, g2⟩ := blk_cells hc hp
      simp only at g0 g1 g2
      have hs1 := ST.out k _ hp
      have hN3 := OK.out _ (List.mem_of_getElem? hp)
      simp only at hs1 hN3
      have HS1 := Lib.hid hs1
      have hal : Hid (Below w.heap.size w (wr.alloc (.cells #[.string p1, .string p2, .int .i64 p3] 34))) := Lib.hid (BW.out.alloc BW.out.size _)
      clear hc hp hs1
      go_wp2
      exact ⟨⟨k + 1, by omega, by go_num, by rw [HS1.out], hal⟩, by simp [RowKit.intOf]; omega⟩
    · obtain rfl : k = n := by omega
      go_wp2
      go_ret
      exact ⟨rfl, BW.out⟩

/-- Blocks whose texts aren't too great. -/
def szB (l : List Blk) : Prop := ∀ b ∈ l, b.1.size ≤ 1000000 ∧ b.2.1.size ≤ 1000000
theorem chkAll_take {l : List Blk} (k : Nat) (x : Blk) (h : l[k]? = some x) (h0 : chkAll (l.take k) = 0) : (chkS x = 0 → chkAll (l.take (k + 1)) = 0) ∧ (chkS x ≠ 0 → chkAll l = chkS x) := by
  refine ⟨fun hx => ?_, fun hx => ?_⟩
  · rw [List.take_add_one, h, chkAll_append, if_pos h0]; simp [chkAll, hx]
  · have e : l = l.take k ++ x :: l.drop (k + 1) := by
      have hk := (List.getElem?_eq_some_iff.1 h).1
      have hx2 := (List.getElem?_eq_some_iff.1 h).2
      rw [← hx2, ← List.drop_eq_getElem_cons hk, List.take_append_drop]
    rw [e, chkAll_append, if_pos h0, chkAll, if_neg hx]
/-- A row in order so far, and the next one. -/
theorem ordB_take {l : List Blk} (k : Nat) (y x : Blk) (hy : l[k]? = some y) (hx : l[k + 1]? = some x) (h0 : ordB (l.take (k + 1)) = true) : (lessB y x = true → ordB (l.take (k + 1 + 1)) = true) ∧ (lessB y x = false → ordB l = false) := by
  have h1 : Srt (l.take (k + 1)) := (ordB_srt _).1 h0
  have app : ∀ (a : List Blk) (z : Blk), Srt a → (∀ b ∈ a, lessB b z = true) → Srt (a ++ [z]) := by
    intro a z
    induction a with
    | nil => exact fun _ _ => ⟨fun b hb => by simp at hb, trivial⟩
    | cons c a ih =>
      intro hs hz
      refine ⟨fun b hb => ?_, ih hs.2 (fun b hb => hz b (by simp [hb]))⟩
      rcases List.mem_append.1 hb with hb | hb
      · exact hs.1 b hb
      · obtain rfl : b = z := by simpa using hb
        exact hz c (by simp)
  have last : ∀ (a : List Blk) (z : Blk), Srt (a ++ [z]) → ∀ b ∈ a, lessB b z = true := by
    intro a z
    induction a with
    | nil => intro _ b hb; simp at hb
    | cons c a ih =>
      intro hs b hb
      rcases List.mem_cons.1 hb with rfl | hb
      · exact hs.1 z (by simp)
      · exact ih hs.2 b hb
  have e1 : l.take (k + 1) = l.take k ++ [y] := by rw [List.take_add_one, hy]; rfl
  have e2 : l.take (k + 1 + 1) = l.take (k + 1) ++ [x] := by rw [List.take_add_one, hx]; rfl
  refine ⟨fun h => ?_, fun h => ?_⟩
  · rw [ordB_srt, e2]
    refine app _ _ h1 (fun b hb => ?_)
    rw [e1] at hb h1
    rcases List.mem_append.1 hb with hb | hb
    · exact less_on b y x (last _ _ h1 b hb) h
    · obtain rfl : b = y := by simpa using hb
      exact h
  · cases ho : ordB l with
    | false => rfl
    | true =>
      exfalso
      have hs : Srt l := (ordB_srt l).1 ho
      have pre : ∀ (a c : List Blk), Srt (a ++ c) → Srt a := by
        intro a
        induction a with
        | nil => exact fun _ _ => trivial
        | cons d a ih => exact fun c hs => ⟨fun b hb => hs.1 b (by simp [hb]), ih c hs.2⟩
      have h2 : Srt (l.take (k + 1 + 1)) := pre _ (l.drop (k + 1 + 1)) (by rw [List.take_append_drop]; exact hs)
      rw [e2, e1] at h2
      have := last _ _ h2 y (by simp)
      rw [h] at this; cases this
theorem ordB_one (l : List Blk) : ordB (l.take 1) = true := by
  cases l with
  | nil => rfl
  | cons a l => rfl

/-- What a region with a call that makes memory keeps: two blocks of a row, all that is old. -/
structure KRow (w : World) (b p q : Nat) (y x : Blk) (w' : World) : Prop where
  a0 : w'.cell? ⟨b, p, none⟩ = some (.string y.1)
  a1 : w'.cell? ⟨b, p + 1, none⟩ = some (.string y.2.1)
  a2 : w'.cell? ⟨b, p + 2, none⟩ = some (.int .i64 y.2.2)
  b0 : w'.cell? ⟨b, q, none⟩ = some (.string x.1)
  b1 : w'.cell? ⟨b, q + 1, none⟩ = some (.string x.2.1)
  b2 : w'.cell? ⟨b, q + 2, none⟩ = some (.int .i64 x.2.2)
  lt : b < w'.heap.size
  bel : Below w.heap.size w w'
theorem KRow.step {w : World} {b p q : Nat} {y x : Blk} {w' w'' : World} (h : KRow w b p q y x w') (hb : Below w'.heap.size w' w'') : KRow w b p q y x w'' :=
  ⟨(hb.cell (p := ⟨b, _, none⟩) h.lt).trans h.a0, (hb.cell (p := ⟨b, _, none⟩) h.lt).trans h.a1, (hb.cell (p := ⟨b, _, none⟩) h.lt).trans h.a2, (hb.cell (p := ⟨b, _, none⟩) h.lt).trans h.b0, (hb.cell (p := ⟨b, _, none⟩) h.lt).trans h.b1, (hb.cell (p := ⟨b, _, none⟩) h.lt).trans h.b2, Nat.lt_of_lt_of_le h.lt hb.size, h.bel.trans (hb.mono h.bel.size)⟩

set_option maxRecDepth 100000 in
set_option maxHeartbeats 8000000 in
theorem refCheck6_any (u : Value) (l : List Blk) (w : World) (hu : BRuns w u l) (hl : l.length ≤ 1000000) (hz : szB l) :
    Calls Tryz.prog 24 #[u] w fun e w' => e = .returned (.int .i64 (chkT l)) ∧ Below w.heap.size w w' := by
  obtain ⟨A, c, e⟩ := hu.slice
  subst e
  have HU := Lib.hid hu; clear hu
  obtain ⟨n, hn⟩ : ∃ n, l.length = n := ⟨_, rfl⟩
  have hT : chkT l = if chkAll l = 0 then (if ordB l then (if 4096 < n ∨ 1073741824 < sumN l then 6 else 0) else 7) else chkAll l := by rw [chkT, hn]
  obtain ⟨res, hres⟩ : ∃ r, chkT l = r := ⟨_, rfl⟩
  rw [hres] at hT ⊢
  have HT := Lib.hid hT; clear hT hres
  rw [hn] at hl HU ⊢
  have HN := Lib.hid hn; clear hn
  have HZ := Lib.hid hz; clear hz
  have C5 := Lib.hid refCheck5_any
  have CL := Lib.hid refLess_any
  go_enter Tryz.func24, Tryz.ntmps24
  go_wp2
  go_loopw [12] (fun s12 wr => ∃ k : Nat, k ≤ n ∧ s12 = .int .i64 k ∧ Hid (chkAll (l.take k) = 0) ∧ Hid (Below w.heap.size w wr)) (fun s12 _ => n - (RowKit.intOf s12).toNat)
  case atStart => exact ⟨0, Nat.zero_le _, rfl, Lib.hid rfl, Lib.hid (Below.refl _ _)⟩
  case round =>
    obtain ⟨k, hkn, rfl, HC, BW⟩ := hrel
    by_cases hk : k < n
    · have k1 : (k : Int) < (n : Int) := by omega
      obtain ⟨⟨p1, p2, p3⟩, hp⟩ : ∃ p, l[k]? = some p := ⟨_, List.getElem?_eq_getElem (by rw [HN.out]; exact hk)⟩
      obtain ⟨b, o, rfl, _, hc⟩ := (HU.out.below BW.out).cells HN.out (by omega)
      obtain ⟨g0, g1, g2⟩ := blk_cells hc hp
      simp only at g0 g1 g2
      have hz1 := HZ.out _ (List.mem_of_getElem? hp)
      have hch := chkAll_take k _ hp HC.out
      simp only at hz1
      obtain ⟨er, her⟩ : ∃ z, chkS (p1, p2, p3) = z := ⟨_, rfl⟩
      rw [her] at hch
      have HCH := Lib.hid hch
      have hal : Hid (Below w.heap.size w (wr.alloc (.cells #[.string p1, .string p2, .int .i64 p3] 34))) := Lib.hid (BW.out.alloc BW.out.size _)
      have c5 := C5.out p1 p2 p3 (wr.alloc (.cells #[.string p1, .string p2, .int .i64 p3] 34)) (by omega) (by omega)
      rw [her] at c5
      have CC := Lib.hid c5
      clear hc hp hch c5 her
      go_wp2_with fail
      refine CC.out.mono ?_
      rintro e w5 ⟨rfl, b5⟩
      have B5 : Hid (Below w.heap.size w w5) := Lib.hid (hal.out.trans (b5.mono hal.out.size))
      clear b5
      by_cases h0 : er = 0
      · subst h0
        go_wp2
        exact ⟨⟨k + 1, by omega, by go_num, Lib.hid (HCH.out.1 (by first | rfl | trivial)), B5⟩, by simp [RowKit.intOf]; omega⟩
      · have h0' : (er == 0) = false := by simpa using h0
        have hr : Hid (res = er) := Lib.hid (by rw [HT.out, if_neg (by rw [HCH.out.2 h0]; exact h0), HCH.out.2 h0])
        go_wp2
        go_ret
        exact ⟨by rw [hr.out]; rfl, B5.out⟩
    · obtain rfl : k = n := by omega
      have HC0 : Hid (chkAll l = 0) := Lib.hid (by have := HC.out; rwa [← HN.out, List.take_length] at this)
      clear HC
      obtain ⟨w2, hw2⟩ : ∃ z, wr = z := ⟨_, rfl⟩
      subst hw2
      go_wp2
      go_loopw [24] (fun s24 wr' => ∃ j : Nat, j ≤ k ∧ s24 = .int .i64 j ∧ Hid (ordB (l.take j) = true) ∧ Hid (Below w.heap.size w wr')) (fun s24 _ => k - (RowKit.intOf s24).toNat)
      case atStart => exact ⟨0, Nat.zero_le _, rfl, Lib.hid rfl, BW⟩
      case round =>
        obtain ⟨j, hjk, rfl, HO, BW2⟩ := hrel
        by_cases hj : j < k
        · have j1 : (j : Int) < (k : Int) := by omega
          rcases Nat.eq_zero_or_pos j with h0 | h0
          · subst h0
            go_wp2
            go_quiet (fail)
            go_wp2
            exact ⟨⟨1, by omega, by go_num, Lib.hid (ordB_one l), Lib.hid (below_draws BW2.out _)⟩, by simp [RowKit.intOf]; omega⟩
          · obtain ⟨i, hi⟩ : ∃ i : Nat, (j : Int) - 1 = (i : Int) := ⟨j - 1, by omega⟩
            have ei : j = i + 1 := by omega
            have EI := Lib.hid ei
            obtain ⟨⟨y1, y2, y3⟩, hy⟩ : ∃ p, l[i]? = some p := ⟨_, List.getElem?_eq_getElem (by rw [HN.out]; omega)⟩
            obtain ⟨⟨x1, x2, x3⟩, hx⟩ : ∃ p, l[j]? = some p := ⟨_, List.getElem?_eq_getElem (by rw [HN.out]; omega)⟩
            have RW := Lib.hid (HU.out.below BW2.out)
            obtain ⟨b, o, rfl, hblt, hc⟩ := RW.out.cells HN.out (by omega)
            obtain ⟨g0, g1, g2⟩ := blk_cells hc hy
            obtain ⟨g3, g4, g5⟩ := blk_cells hc hx
            simp only at g0 g1 g2 g3 g4 g5
            have hor := ordB_take i (y1, y2, y3) (x1, x2, x3) hy (by rw [← ei]; exact hx) (by rw [← ei]; exact HO.out)
            have c5 := fun w => CL.out y1 y2 x1 x2 y3 x3 w
            obtain ⟨le, hle⟩ : ∃ z, lessB (y1, y2, y3) (x1, x2, x3) = z := ⟨_, rfl⟩
            simp only [hle] at c5 hor
            have HOR := Lib.hid hor; have C := Lib.hid c5
            clear hc hy hx hor c5 hle ei HO
            have i0 : (0 : Int) < (j : Int) := by omega
            have i1 : (i : Int) < (k : Int) := by omega
            have hwr : IntKind.i64.wrap ((j : Int) - 1) = (i : Int) := by rw [IntKind.wrap_i64]; omega
            have hwi : IntKind.i64.wrap (i : Int) = (i : Int) := by rw [IntKind.wrap_i64]; omega
            have i2 : (0 : Int) ≤ (i : Int) := by omega
            have KD : Hid (KRow w b (o + i * 3) (o + j * 3) (y1, y2, y3) (x1, x2, x3) wr.drew) := Lib.hid ⟨g0, g1, g2, g3, g4, g5, hblt, BW2.out.drew⟩
            go_wp2
            go_region_held3 (fun w' => w'.cell? ⟨b, o + i * 3, none⟩ = some (.string y1) ∧ w'.cell? ⟨b, o + i * 3 + 1, none⟩ = some (.string y2) ∧ w'.cell? ⟨b, o + i * 3 + 2, none⟩ = some (.int .i64 y3) ∧ w'.cell? ⟨b, o + j * 3, none⟩ = some (.string x1) ∧ w'.cell? ⟨b, o + j * 3 + 1, none⟩ = some (.string x2) ∧ w'.cell? ⟨b, o + j * 3 + 2, none⟩ = some (.int .i64 x3) ∧ Hid (KRow w b (o + i * 3) (o + j * 3) (y1, y2, y3) (x1, x2, x3) w'))
              (first | exact ⟨g0, g1, g2, g3, g4, g5, KD⟩ | exact ⟨HKn.out.a0, HKn.out.a1, HKn.out.a2, HKn.out.b0, HKn.out.b1, HKn.out.b2, HKn⟩ | go_keep)
              (first
                | (go_at_call 41; refine (C.out _).mono ?_; rintro e w4 ⟨rfl, hb4⟩; have HKn := Lib.hid ((by assumption : Hid (KRow w b (o + i * 3) (o + j * 3) (y1, y2, y3) (x1, x2, x3) _)).out.step hb4); clear hb4))
            rename_i hHeld
            clear hHeld
            have B4 : Hid (Below w.heap.size w w4) := Lib.hid HKn.out.bel
            cases le
            · have hr : Hid (res = 7) := Lib.hid (by rw [HT.out, if_pos HC0.out, if_neg (by rw [HOR.out.2 rfl]; simp)])
              go_wp2
              go_ret
              exact ⟨by rw [hr.out]; rfl, B4.out⟩
            · go_wp2
              exact ⟨⟨j + 1, by omega, by go_num, Lib.hid (by have := HOR.out.1 rfl; rwa [← EI.out] at this), B4⟩, by simp [RowKit.intOf]; omega⟩
        · obtain rfl : j = k := by omega
          have HO0 : Hid (ordB l = true) := Lib.hid (by have := HO.out; rwa [← HN.out, List.take_length] at this)
          clear HO BW
          by_cases hbig : 4096 < j
          · have hb1 : (4096 : Int) < (j : Int) := by omega
            have hr : Hid (res = 6) := Lib.hid (by rw [HT.out, if_pos HC0.out, if_pos HO0.out, if_pos (.inl hbig)])
            go_wp2
            go_ret
            exact ⟨by rw [hr.out]; rfl, BW2.out⟩
          · have hb1 : ¬ (4096 : Int) < (j : Int) := by omega
            have hok := okN_of HC0.out
            have hbd := sumN_bound hok
            obtain ⟨sm, hsm⟩ : ∃ f, f = fun k => sumN (l.take k) := ⟨_, rfl⟩
            have hst : ∀ k x, l[k]? = some x → sm (k + 1) = sm k + x.2.2 := fun k x hx => by rw [hsm]; exact sumN_take k x hx
            have hb' : ∀ k, 0 ≤ sm k ∧ sm k ≤ (k : Int) * 1073741824 := fun k => by rw [hsm]; exact hbd k
            have h0 : sm 0 = 0 := by rw [hsm]; simp [sumN]
            have hfin : Hid (sumN l = sm j) := Lib.hid (by rw [hsm, ← HN.out]; simp)
            clear hbd hsm
            have ST := Lib.hid hst; have BD := Lib.hid hb'; have OK := Lib.hid hok
            clear hst hb' hok
            go_wp2
            go_loopw [3, 48] (fun s3 s48 wr' => ∃ k : Nat, k ≤ j ∧ s48 = .int .i64 k ∧ s3 = .int .i64 (sm k) ∧ Hid (Below w.heap.size w wr')) (fun _ s48 _ => j - (RowKit.intOf s48).toNat)
            case atStart => exact ⟨0, Nat.zero_le _, rfl, by rw [h0], BW2⟩
            case round =>
              obtain ⟨k, hkn, rfl, rfl, BW3⟩ := hrel
              have bk := BD.out k
              by_cases hk : k < j
              · have k1 : (k : Int) < (j : Int) := by omega
                obtain ⟨⟨p1, p2, p3⟩, hp⟩ : ∃ p, l[k]? = some p := ⟨_, List.getElem?_eq_getElem (by rw [HN.out]; exact hk)⟩
                obtain ⟨b, o, rfl, _, hc⟩ := (HU.out.below BW3.out).cells HN.out (by omega)
                obtain ⟨g0, g1, g2⟩ := blk_cells hc hp
                simp only at g0 g1 g2
                have hs1 := ST.out k _ hp
                have hN3 := OK.out _ (List.mem_of_getElem? hp)
                simp only at hs1 hN3
                have HS1 := Lib.hid hs1
                have hal : Hid (Below w.heap.size w (wr.alloc (.cells #[.string p1, .string p2, .int .i64 p3] 34))) := Lib.hid (BW3.out.alloc BW3.out.size _)
                clear hc hp hs1
                go_wp2
                exact ⟨⟨k + 1, by omega, by go_num, by rw [HS1.out], hal⟩, by simp [RowKit.intOf]; omega⟩
              · obtain rfl : k = j := by omega
                by_cases hsum : 1073741824 < sm k
                · have hr : Hid (res = 6) := Lib.hid (by rw [HT.out, if_pos HC0.out, if_pos HO0.out, if_pos (.inr (by rw [hfin.out]; exact hsum))])
                  go_wp2
                  go_ret
                  exact ⟨by rw [hr.out]; rfl, BW3.out⟩
                · have hr : Hid (res = 0) := Lib.hid (by rw [HT.out, if_pos HC0.out, if_pos HO0.out, if_neg (by rw [hfin.out]; omega)])
                  go_wp2
                  go_ret
                  exact ⟨by rw [hr.out]; rfl, BW3.out⟩
end Go.Proofs.YtnognphjndpgkaaGreatDoor

/- errataref06.Total, Find: what each answers. -/
namespace Go.Proofs.YtnognphjndpgkaaGreatDoor
open Go.RowKit Go.Shelf

theorem cnt_key {l : List Blk} {a b : Blk} (h : sameS a b) : cnt l a = cnt l b := by
  unfold cnt
  congr 1
  refine List.map_congr_left (fun z _ => ?_)
  by_cases h1 : sameS z a
  · rw [if_pos h1, if_pos ⟨h1.1.trans h.1, h1.2.trans h.2⟩]
  · rw [if_neg h1, if_neg (fun e => h1 ⟨e.1.trans h.1.symm, e.2.trans h.2.symm⟩)]
theorem srt_mem_cnt {l : List Blk} (h : Srt l) : ∀ x ∈ l, cnt l x = x.2.2 := by
  induction l with
  | nil => simp
  | cons a l ih =>
    intro x hx
    rw [cnt_cons]
    rcases List.mem_cons.1 hx with rfl | hx
    · rw [if_pos ⟨rfl, rfl⟩, srt_cons_cnt h]; omega
    · rw [if_neg (less_not (h.1 x hx)).2, ih h.2 x hx]; omega

end Go.Proofs.YtnognphjndpgkaaGreatDoor

/- The ranges of the longest rows of steps that aren't matches, plain. -/
namespace Go.Proofs.YtnognphjndpgkaaGreatDoor
open Go.RowKit Go.Shelf

/-- The ranges of rows: f where the row under way began, k where the rest begins. -/
def rng (f k : Nat) : List St → List (Nat × Nat)
  | [] => if f < k then [(f, k)] else []
  | s :: t => if s.1 = 0 then (if f < k then [(f, k)] else []) ++ rng (k + 1) (k + 1) t else rng f (k + 1) t
def cutR (l : List St) (p : Nat × Nat) : List St := (l.drop p.1).take (p.2 - p.1)
theorem cutR_none (l : List St) (f : Nat) : cutR l (f, f) = [] := by simp [cutR]
theorem cutR_len (l : List St) (p : Nat × Nat) (h : p.2 ≤ l.length) : (cutR l p).length = p.2 - p.1 := by simp [cutR]; omega
theorem cutR_drop (l : List St) (f k : Nat) (h : f ≤ k) : l.drop f = cutR l (f, k) ++ l.drop k := by
  have e : l.drop k = (l.drop f).drop (k - f) := by rw [List.drop_drop]; congr 1; omega
  rw [e]; exact (List.take_append_drop _ _).symm
theorem cutR_snoc (l : List St) (f k : Nat) (s : St) (t : List St) (h : f ≤ k) (hd : l.drop k = s :: t) : cutR l (f, k + 1) = cutR l (f, k) ++ [s] := by
  have hs : (l.drop f)[k - f]? = some s := by
    rw [List.getElem?_drop, show f + (k - f) = k by omega]
    have h0 := congrArg (fun z => z[0]?) hd
    simpa [List.getElem?_drop] using h0
  show (l.drop f).take (k + 1 - f) = (l.drop f).take (k - f) ++ [s]
  rw [show k + 1 - f = (k - f) + 1 by omega, List.take_add_one, hs]; rfl
theorem cutR_getD (l : List St) (p : Nat × Nat) (j : Nat) (hj : j < p.2 - p.1) : (cutR l p).getD j (0, 0, 0) = l.getD (p.1 + j) (0, 0, 0) := by
  simp only [cutR, List.getD_eq_getElem?_getD, List.getElem?_take, List.getElem?_drop, if_pos hj]
theorem cutR_mem (l : List St) (p : Nat × Nat) : ∀ s ∈ cutR l p, s ∈ l := fun _ hs => List.mem_of_mem_drop (List.mem_of_mem_take hs)
theorem run_take {r : List St} (h : ∀ s ∈ r, s.1 ≠ 0) : r.takeWhile ne0 = r ∧ r.dropWhile ne0 = [] := by
  induction r with
  | nil => exact ⟨rfl, rfl⟩
  | cons a r ih =>
    have ha := ne0_true.2 (h a (by simp))
    obtain ⟨i1, i2⟩ := ih (fun s hs => h s (by simp [hs]))
    exact ⟨by rw [List.takeWhile_cons, ha, i1]; rfl, by rw [List.dropWhile_cons, ha, i2]; rfl⟩
theorem rowsP_one {r : List St} (h : ∀ s ∈ r, s.1 ≠ 0) (hr : r ≠ []) : rowsP r = [r] := by
  cases r with
  | nil => exact absurd rfl hr
  | cons a r =>
    obtain ⟨i1, i2⟩ := run_take (fun s hs => h s (List.mem_cons_of_mem a hs))
    rw [rowsP_row (h a (by simp)), i1, i2, rowsP_nil]
theorem rng_rows (l : List St) : ∀ (t : List St) (f k : Nat), l.drop k = t → f ≤ k → k ≤ l.length → (∀ s ∈ cutR l (f, k), s.1 ≠ 0) → (rng f k t).map (cutR l) = rowsP (l.drop f) := by
  intro t
  induction t with
  | nil =>
    intro f k hd hf hk hr
    rw [cutR_drop l f k hf, hd, List.append_nil, rng]
    by_cases hfk : f < k
    · rw [if_pos hfk, rowsP_one hr (by intro e; have := cutR_len l (f, k) hk; rw [e] at this; simp at this; omega)]; rfl
    · obtain rfl : f = k := by omega
      rw [if_neg hfk, cutR_none, rowsP_nil]; rfl
  | cons s t ih =>
    intro f k hd hf hk hr
    have hlt : k < l.length := by
      have := congrArg List.length hd
      simp at this; omega
    have hd' : l.drop (k + 1) = t := by rw [← List.drop_drop, hd]; rfl
    rw [rng]
    by_cases hs : s.1 = 0
    · rw [if_pos hs, List.map_append, ih (k + 1) (k + 1) hd' (Nat.le_refl _) hlt (by rw [cutR_none]; simp), hd', cutR_drop l f k hf, hd, rowsP_parts _ _ _ hs]
      congr 1
      by_cases hfk : f < k
      · rw [if_pos hfk, rowsP_one hr (by intro e; have := cutR_len l (f, k) hk; rw [e] at this; simp at this; omega)]; rfl
      · obtain rfl : f = k := by omega
        rw [if_neg hfk, cutR_none, rowsP_nil]; rfl
    · rw [if_neg hs, ih f (k + 1) hd' (by omega) hlt (by
        rw [cutR_snoc l f k s t hf hd]
        intro z hz
        rcases List.mem_append.1 hz with hz | hz
        · exact hr z hz
        · obtain rfl : z = s := by simpa using hz
          exact hs)]
theorem rng_all (l : List St) : (rng 0 0 l).map (cutR l) = rowsP l := by
  have := rng_rows l l 0 0 rfl (Nat.le_refl _) (Nat.zero_le _) (by rw [cutR_none]; simp)
  exact this

/-- A range within so many steps. -/
abbrev RgI (n : Nat) := { p : Nat × Nat // p.1 < p.2 ∧ p.2 ≤ n }
def rgL {n : Nat} (l : List (RgI n)) : List (Nat × Nat) := l.map (·.val)
theorem rgL_snoc {n : Nat} (l : List (RgI n)) (x : RgI n) : rgL (l ++ [x]) = rgL l ++ [x.val] := by simp [rgL]
theorem rgL_len {n : Nat} (l : List (RgI n)) : (rgL l).length = l.length := by simp [rgL]

/-- Check's answer at a good row's block. -/
theorem chk_blk {r : List St} (hg : r.all stGood = true) : chkS (blkOf r) = if longB r then 5 else if diffB r then 0 else 7 := by
  obtain ⟨ea, eb, ia, ib, va, vb⟩ := row_texts hg
  unfold chkS blkOf
  simp only [mkB_data, va, vb, ia, ib, Bool.and_self, if_true]
  by_cases hl : 3 < (stA r).length ∨ 3 < (stB r).length
  · have hL : longB r = true := decide_eq_true hl
    rw [if_pos hl, hL]; rfl
  · have hL : longB r = false := decide_eq_false hl
    rw [if_neg hl, hL]
    by_cases hd : stA r = stB r
    · have hD : diffB r = false := decide_eq_false (fun h => h hd)
      have he : readA r = readB r := (row_differ hg).2 hd
      rw [hD, if_pos (by rw [he])]; rfl
    · have hD : diffB r = true := decide_eq_true hd
      have hne : mkB (readA r) ≠ mkB (readB r) := fun e => hd ((row_differ hg).1 (by rw [← mkB_data (readA r), e, mkB_data]))
      rw [hD, if_neg hne, if_neg (by omega)]; rfl
/-- The blocks among all that Check lets by are those that aren't too long, and differ. -/
theorem of_filter {l : List St} (hg : l.all stGood = true) : ((rowsP l).map blkOf).filter (fun b => decide (chkS b = 0)) = ofS l := by
  rw [ofS, if_pos hg, List.filter_map]
  congr 1
  refine List.filter_congr (fun r hr => ?_)
  show decide (chkS (blkOf r) = 0) = _
  rw [chk_blk (rows_good hg r hr)]
  cases longB r <;> cases diffB r <;> rfl
theorem long_filter {l : List St} (hg : l.all stGood = true) : (((rowsP l).map blkOf).filter (fun b => decide (chkS b = 5))).length = longS l := by
  rw [longS, if_pos hg, List.filter_map, List.length_map]
  congr 1
  refine List.filter_congr (fun r hr => ?_)
  show decide (chkS (blkOf r) = 5) = _
  rw [chk_blk (rows_good hg r hr)]
  cases longB r <;> cases diffB r <;> rfl
end Go.Proofs.YtnognphjndpgkaaGreatDoor

/- A loop over an iterator that itself loops over another one and hands its elements on: what such an iterator promises, and the law of the loop over it. -/
namespace Go.Proofs.YtnognphjndpgkaaGreatDoor
open Go.RowKit Go.Shelf

/-- What such an iterator does between two rounds: whatever lay below B lies as it lay; of what lies from B on it turns its own two boxes and what holds no cells. -/
def Priv (B : Nat) (W1 W2 : World) : Prop := Below B W1 W2 ∧ ∀ k o, B + 2 ≤ k → W1.heap[k]? = some o → o.isCells = true → W2.heap[k]? = some o
theorem Priv.of_below {B : Nat} {W1 W2 : World} (h : Below W1.heap.size W1 W2) (hB : B ≤ W1.heap.size) : Priv B W1 W2 :=
  ⟨h.mono hB, fun k _ _ hk _ => (h.block k (Array.getElem?_eq_some_iff.1 hk).1).trans hk⟩
theorem Priv.of_grown {B : Nat} {W1 W2 : World} {row : Option Nat} (h : W1.grownBy W2 row) (hr : ∀ r, row = some r → B + 2 ≤ r ∧ ∃ o : Obj, W1.heap[r]? = some o ∧ o.isCells = false) (hB : B ≤ W1.heap.size) : Priv B W1 W2 :=
  ⟨⟨h.os, h.tape, h.output, h.size, fun k hk => h.block k (Nat.lt_of_lt_of_le hk hB) (fun e => by have := (hr k e.symm).1; omega)⟩,
   fun k _ _ hk ho => (h.block k (Array.getElem?_eq_some_iff.1 hk).1 (fun e => by
     obtain ⟨_, o', ho', hc⟩ := hr k e.symm
     rw [hk] at ho'; cases ho'; rw [ho] at hc; cases hc)).trans hk⟩

/-- The two boxes are kept. -/
def KeepsTwo (B : Nat) (W W' : World) : Prop := ∀ k, B ≤ k → k < B + 2 → W'.heap[k]? = W.heap[k]?

/-- The contract of such an iterator, where no round leaves early. -/
def SeqT {α : Type} (n : Nat) (P : Program) (g : Nat) (lb : Array Value) (encs : α → Array Value) (Kp : World → World → Prop) (S : List α → Prop) (N : Nat) (w : World) : Prop :=
  ∀ (l : Nat) (J : List α → World → Prop) (W : World), Below w.heap.size w W → (∀ pre W1 W2, J pre W1 → W.heap.size ≤ W1.heap.size → Priv W.heap.size W1 W2 → J pre W2) →
    (∀ pre x W1, J pre W1 → pre.length < N → W.heap.size + 2 ≤ W1.heap.size → YieldAt Fence.wide (n - 1) P l (encs x) W1 fun e W' =>
      e = .returned (.bool true) ∧ J (pre ++ [x]) W' ∧ Kp W1 W' ∧ KeepsFrom W.heap.size W1 W' ∧ KeepsTwo W.heap.size W1 W') →
    J [] W →
    CallsIn Fence.wide n P g (#[.func (.yield l) #[] #[]] ++ lb) W fun e W' => (∃ v, e = .returned v) ∧ ∃ xs, S xs ∧ J xs W'

theorem yield_deep {m m' l l' : Nat} {P : Program} {args : Array Value} {W : World} {R : Ending → World → Prop} (h : YieldAt Fence.wide m P l args W R) : YieldAt (Fence.wide.inRound l') m' P l args W R := by
  obtain ⟨fn, tmps, assign, body, hy, hR⟩ := h
  exact ⟨fn, tmps, assign, body, hy, hR.1, fun c cs _ => hR.2 c cs (room_wide _)⟩

/-- How the body of a round is left. -/
def privPost {α : Type} (b : Nat) (Kp : World → World → Prop) (I : List α → World → Prop) (xs : List α) (W : World) : Exit → Act → World → Prop
  | .normal, _, W' => KeepsFrom b W W' ∧ KeepsTwo (b + 2) W W' ∧ Kp W W' ∧ I xs W'
  | _, _, _ => False

theorem wp_range_priv {α : Type} {n : Nat} {P : Program} {g : Operand} {ps : Array Tmp} {assign body : Code} {Q : Exit → Act → World → Prop} {a : Act} {w : World}
    (h1 : 1 ≤ n) {gf : Nat} {lb : Array Value} (hg : a.eval g = .func (.func gf) #[] lb) (eg : ∀ args w, (callFunc gf args).run P w = .ok (.enter gf args) w)
    {encs : α → Array Value} {Kp : World → World → Prop} {S : List α → Prop} {N : Nat} {w0 : World} (hseq : SeqT (n - 1) P gf lb encs Kp S N w0)
    (hKt : ∀ {A B C : World}, Kp A B → Kp B C → Kp A C) (hKb : ∀ (W : World) (l : Nat) (o o' : Obj), w.heap.size ≤ l → W.heap[l]? = some o → o.isCells = false → o.isWalk = false → Kp W (W.putObj l o')) (hb0 : Below w0.heap.size w0 w) (hps : ∀ x, (encs x).size = ps.size)
    (I : List α → World → Prop) (hI : OwnFrom w.heap.size I) (hIp : ∀ pre W1 W2, I pre W1 → w.heap.size + 2 ≤ W1.heap.size → Priv (w.heap.size + 2) W1 W2 → I pre W2) (h0 : I [] w) (a₁ : α → Act)
    (hassign : ∀ (l : Nat) (x : α) (W : World) (K : Act → World → Prop), K (a₁ x) W →
      assign.wpIn (Fence.wide.inRound l) (n - 1 - 1) P (Exit.then K (fun _ _ _ => False)) { tmps := (ps.zip (encs x)).foldl (fun t (p, v) => t.setIfInBounds p v) a.tmps, defers := [] } W)
    (hbody : ∀ (l : Nat) (pre : List α) (x : α) (W : World), w.heap.size + 4 ≤ W.heap.size → I pre W → pre.length < N → body.wpIn (Fence.wide.inRound l) (n - 1 - 1) P (privPost w.heap.size Kp I (pre ++ [x]) W) (a₁ x) W)
    (hdone : ∀ (D : Nat) (xs : List α) (W : World), w.heap.size ≤ D → S xs → I xs W → W.heap[D]? = some (.deferred (some [])) → Q .normal { a with defers := { target := .collected D, args := #[] } :: a.defers } W) :
    (Code.rangeFunc g ps assign body).wpIn Fence.wide n P Q a w := by
  refine wpIn_rangeFunc fun fn hfn => ?_
  obtain ⟨b, hb⟩ : ∃ b, w.heap.size = b := ⟨_, rfl⟩
  obtain ⟨rc, hrc⟩ : ∃ rc : LoopState → Loop, rc = fun st => { state := st, pending := none, fn, tmps := a.tmps, params := ps, assign, body, defers := b } := ⟨_, rfl⟩
  obtain ⟨V, hV⟩ : ∃ V, (w.alloc (.deferred (some []))).alloc (.loop (rc .ready)) = V := ⟨_, rfl⟩
  have hVs : V.heap.size = b + 2 := by rw [← hV]; simp [hb]
  have hL : V.heap[b + 1]? = some (.loop (rc .ready)) := by
    rw [← hV]; have := World.alloc_heap_new (w.alloc (.deferred (some []))) (.loop (rc .ready)); rwa [World.size_alloc, hb] at this
  have hD : V.heap[b]? = some (.deferred (some [])) := by
    rw [← hV, ← hb]; exact (Below.heap_alloc _ _ _ (by simp)).trans (World.alloc_heap_new w _)
  have hI0 : I [] V := by rw [← hV]; exact hI.alloc _ (hI.alloc _ h0)
  have hbV : Below w0.heap.size w0 V := by
    rw [← hV]; exact hb0.trans ((((Below.refl _ w).alloc (Nat.le_refl _) _).alloc (by simp) _).mono hb0.size)
  rw [hb] at hKb hI hIp hbody hdone
  refine ⟨b + 1, [{ target := .collected b, args := #[] }], V, { target := .fn (.func gf) lb, args := #[.func (.yield (b + 1)) #[] #[]] }, V, gf, #[.func (.yield (b + 1)) #[] #[]] ++ lb, V, ?_, ?_, ?_, ?_, fun _ => h1, ?_⟩
  · rw [← hV, hrc, ← hb]; exact run_enterLoop_outer _ _ _ _ _
  · simp only [resolve, hg]; simp [go_sem]
  · intro f' _; trivial
  · simp [invoke, go_sem, eg]
  refine (hseq (b + 1) (fun pre W => I pre W ∧ W.heap[b + 1]? = some (.loop (rc .ready)) ∧ W.heap[b]? = some (.deferred (some []))) V hbV
    (fun pre A B hJ hs hp => by
      rw [hVs] at hp hs
      exact ⟨hIp pre A B hJ.1 hs hp, (hp.1.block _ (by omega)).trans hJ.2.1, (hp.1.block _ (by omega)).trans hJ.2.2⟩) ?_ ⟨hI0, hL, hD⟩).mono ?_
  · rintro pre x W ⟨hi, hl, hk⟩ hlen hsz
    rw [hVs] at hsz ⊢
    have hlt : b + 1 < W.heap.size := by omega
    have hy := run_yield (P := P) (args := encs x) hl (by rw [hrc]; exact hps x)
    rw [hrc] at hy
    obtain ⟨W2, hW2⟩ : ∃ W2, W.putObj (b + 1) (.loop { rc .ready with state := .busy }) = W2 := ⟨_, rfl⟩
    have hl2 : W2.heap[b + 1]? = some (.loop { rc .ready with state := .busy }) := by rw [← hW2]; exact World.putObj_heap_same hlt
    have ho2 : ∀ k, k ≠ b + 1 → W2.heap[k]? = W.heap[k]? := fun k hne => by rw [← hW2]; exact World.putObj_heap_other hne
    have hs2 : W2.heap.size = W.heap.size := by rw [← hW2]; simp
    have hkp2 : Kp W W2 := by rw [← hW2]; exact hKb _ _ _ _ (by omega) hl rfl rfl
    have hi2 : I pre W2 := by rw [← hW2]; exact hI.putObj _ hi (by omega) hl rfl
    refine ⟨fn, _, assign, body, hy, roundIn_of_wpIn hfn (hassign _ x W _ ⟨W2, by rw [← hW2]; exact run_beginRound hl (by rw [hrc]), ?_⟩)⟩
    refine wpIn_mono (hbody _ pre x W2 (by omega) hi2 hlen) ?_
    rintro e a3 W3 hp
    cases e with
    | normal =>
      obtain ⟨hk3, ht3, hkp3, hi3⟩ := hp
      have hl3 := hk3.same _ _ (by omega) hl2 rfl
      have he := run_endRound (P := P) none hl3
      refine ⟨_, _, he, rfl, ⟨hI.putObj _ hi3 (by omega) hl3 rfl, ?_, ?_⟩, hKt (hKt hkp2 hkp3) (hKb _ _ _ _ (by omega) hl3 rfl rfl), ?_, ?_⟩
      · rw [World.putObj_heap_same (Array.getElem?_eq_some_iff.1 hl3).1, hrc]; rfl
      · exact (World.putObj_heap_other (by omega)).trans (hk3.same _ _ (Nat.le_refl _) ((ho2 b (by omega)).trans hk) rfl)
      · refine ⟨by simp; have := hk3.size; omega, fun k _ hB hk0 ho => ?_⟩
        exact (World.putObj_heap_other (by omega)).trans (hk3.same _ _ (by omega) ((ho2 k (by omega)).trans hk0) ho)
      · intro k hB1 hB2
        exact (World.putObj_heap_other (by omega)).trans ((ht3 k hB1 hB2).trans (ho2 k (by omega)))
    | ret => exact hp.elim
    | exit id => exact hp.elim
    | goto t => exact hp.elim
    | panic ch => exact hp.elim
    | outgrown => exact hp.elim
  · rintro e W2 ⟨⟨v, rfl⟩, xs, hS, hi, hl, hk⟩
    have he := run_endLoop (P := P) hl (by rw [hrc]; simp)
    refine ⟨none, _, by rw [hrc] at he; exact he, hdone _ xs _ (Nat.le_refl _) hS (hI.putObj _ hi (by omega) hl rfl) ((World.putObj_heap_other (by omega)).trans hk)⟩
end Go.Proofs.YtnognphjndpgkaaGreatDoor

/- The longest rows of steps that aren't matches, as block.rows hands them on: the iterator's contract. -/
namespace Go.Proofs.YtnognphjndpgkaaGreatDoor
open Go.RowKit Go.Shelf
attribute [local go_sem] Oper.semAt_some

/-- A row as a value: a part of the steps' own slice. -/
def rowV (b o c : Nat) (p : Nat × Nat) : Value := .slice (some ⟨b, o + p.1 * 3, none⟩) (p.2 - p.1) (c - p.1)
/-- A part of steps reads as a part of the list. -/
theorem StRuns.cut {w : World} {b o c n : Nat} {l : List St} (h : StRuns w (.slice (some ⟨b, o, none⟩) n c) l) (hn : l.length = n) (p : Nat × Nat) (h1 : p.1 < p.2) (h2 : p.2 ≤ n) : StRuns w (rowV b o c p) (cutR l p) := by
  obtain ⟨A, c', e, hc, ⟨hm, _⟩, hx⟩ := h
  obtain ⟨rfl, _, rfl⟩ := Value.slice.inj e
  obtain ⟨b', o', e2, hlt, hcell⟩ := hx (by omega)
  have e3 := Option.some.inj e2
  simp only [Addr.mk.injEq] at e3
  obtain ⟨rfl, rfl, _⟩ := e3
  have hl := cutR_len l p (by omega)
  refine ⟨some ⟨b, o + p.1 * 3, none⟩, c - p.1, by rw [hl, rowV], by omega, ⟨by omega, fun h => by cases h⟩, fun _ => ⟨b, o + p.1 * 3, rfl, hlt, fun j hj => ?_⟩⟩
  rw [hl] at hj
  have := hcell (p.1 + j) (by omega)
  rw [cutR_getD l p j hj]
  rwa [show o + p.1 * 3 + j * 3 = o + (p.1 + j) * 3 by omega]
theorem rng_nil_end (f : Nat) : rng f f [] = [] := by rw [rng, if_neg (by omega)]

set_option maxRecDepth 100000 in
set_option maxHeartbeats 8000000 in
theorem riter_in (n : Nat) (hn : 1 ≤ n) (l Bs n₀ : Nat) (A : Option Addr) (N c b o : Nat) (L : List St) (hN : L.length = N) (hL : N ≤ 1000000) (hA : 0 < N → A = some ⟨b, o, none⟩) (w0 : World) (hw0 : w0.heap.size = n₀) (hx : StRuns w0 (.slice A N c) L) (J Jx : List (RgI N) → World → Prop)
    (W : World) (hJ : AbidesFrom W.heap.size J)
    (hY : ∀ pre x W1, J pre W1 → pre.length < N → YieldAt Fence.wide (n - 1) Tryz.prog l #[rowV b o c x.val] W1 fun e W' =>
      (e = .returned (.bool true) ∧ J (pre ++ [x]) W' ∧ Keep n₀ Bs W1 W') ∨ (e = .returned (.bool false) ∧ Jx (pre ++ [x]) W'))
    (_ : n₀ ≤ W.heap.size) (hW0 : Below n₀ w0 W) (_ : Bs < W.heap.size)
    (hc : W.cell? ⟨Bs, 0, none⟩ = some (.slice A N c)) (h0 : J [] W) :
    CallsIn Fence.wide n Tryz.prog 97 #[.func (.yield l) #[] #[], .pointer (some ⟨Bs, 0, none⟩)] W fun e W' => (∃ v, e = .returned v) ∧
      ((∃ ys, rgL ys = rng 0 0 L ∧ J ys W') ∨ (∃ pre, rgL pre <+: rng 0 0 L ∧ Jx pre W')) := by
  have HN := Lib.hid hN; clear hN
  have HX := Lib.hid hx; clear hx
  have HW0 := Lib.hid hw0; clear hw0
  have hcm : N ≤ c ∧ c ≤ 9223372036854775807 := by
    obtain ⟨A', c', e, h1, ⟨h2, _⟩, _⟩ := HX.out
    obtain ⟨rfl, _, rfl⟩ := Value.slice.inj e
    unfold maxLen at h2
    exact ⟨HN.out ▸ h1, h2⟩
  obtain ⟨R0, hR0⟩ : ∃ R0, rng 0 0 L = R0 := ⟨_, rfl⟩
  rw [hR0]
  have HR0 : Hid (R0 = rgL ([] : List (RgI N)) ++ rng 0 0 (L.drop 0)) := Lib.hid (by rw [← hR0]; rfl)
  clear hR0
  refine callsIn_of_wp Tryz.func97 rfl trivial ?_ rfl
  simp only [Tryz.ntmps97, List.size_toArray, List.length_cons, List.length_nil, Nat.reduceAdd, Nat.reduceSub, Array.replicate_succ, Array.replicate_zero, List.push_toArray, List.append_toArray, List.nil_append, List.cons_append]
  refine wpIn_wide.2 (wp_scope_straight ((wpIn_wide (n := n)).1 ?_))
  gi_wp2_with (refine wpIn_label ?_)
  gi_loopw [3, 8] (fun s3 s8 wr => ∃ (f k : Nat) (pre : List (RgI N)), s3 = .int .i64 f ∧ s8 = .int .i64 k ∧ f ≤ k ∧ k ≤ N + 1 ∧ (k = N + 1 → f = k) ∧ pre.length ≤ f ∧ Hid (R0 = rgL pre ++ rng f k (L.drop k)) ∧ J pre wr ∧ Keep n₀ Bs W wr)
    (fun _ s8 _ => N + 1 - (intOf s8).toNat)
  case atStart => exact ⟨0, 0, [], rfl, rfl, Nat.le_refl _, by omega, by omega, by simp, HR0, h0, Keep.refl _ _ _⟩
  case round =>
    clear HR0 h0
    obtain ⟨f, k, pre, rfl, rfl, hfk, hkN, hkf, hpf, HR, hJs, hKB⟩ := hrel
    have hcell : wr.cell? ⟨Bs, 0, none⟩ = some (.slice A N c) := (World.cell?_of_block hKB.2).trans hc
    have BL : Hid (Below n₀ w0 wr) := Lib.hid (hW0.trans hKB.1)
    by_cases hend : k = N + 1
    · obtain rfl := hkf hend
      subst hend
      have HE : Hid (rgL pre = R0) := Lib.hid (by rw [HR.out, List.drop_of_length_le (by rw [HN.out]; omega), rng_nil_end, List.append_nil])
      gi_wp2
      go_end0
      exact ⟨⟨_, rfl⟩, .inl ⟨pre, HE.out, hJs⟩⟩
    have k1 : (k : Int) < (N : Int) + 1 := by omega
    by_cases hk : k < N
    · obtain rfl := hA (by omega)
      have hcs : wr.cell? ⟨b, o + k * 3, none⟩ = some (.int .i64 (L.getD k (0, 0, 0)).1) := by
        obtain ⟨A', c', e, _, _, hx⟩ := HX.out.below (HW0.out.symm ▸ BL.out)
        obtain ⟨e1, _, rfl⟩ := Value.slice.inj e
        obtain ⟨b', o', e2, _, hc⟩ := hx (by rw [HN.out]; omega)
        have e3 := Option.some.inj (e1.trans e2)
        simp only [Addr.mk.injEq] at e3
        obtain ⟨rfl, rfl, _⟩ := e3
        exact (hc k (by rw [HN.out]; exact hk)).1
      obtain ⟨s, hs⟩ : ∃ s, L.getD k (0, 0, 0) = s := ⟨_, rfl⟩
      have hd : L.drop k = s :: L.drop (k + 1) := by
        rw [List.drop_eq_getElem_cons (by rw [HN.out]; exact hk), ← hs, List.getD_eq_getElem?_getD, List.getElem?_eq_getElem (by rw [HN.out]; exact hk)]; rfl
      rw [hs] at hcs
      have HR' : Hid (R0 = rgL pre ++ rng f k (s :: L.drop (k + 1))) := Lib.hid (by rw [HR.out, hd])
      clear hd hs HR
      obtain ⟨kd, hkd⟩ : ∃ kd, s.1 = kd := ⟨_, rfl⟩
      rw [hkd] at hcs
      have k2 : (k : Int) < (N : Int) := by omega
      by_cases hz : kd = 0
      · subst hz
        by_cases hlt : f < k
        · have k3 : (f : Int) < (k : Int) := by omega
          obtain ⟨X, hX⟩ : ∃ X : RgI N, X.val = (f, k) := ⟨⟨(f, k), hlt, by show k ≤ N; omega⟩, rfl⟩
          have HRn : Hid (R0 = rgL (pre ++ [X]) ++ rng (k + 1) (k + 1) (L.drop (k + 1))) := Lib.hid (by rw [HR'.out, rng, if_pos hkd, if_pos hlt, rgL_snoc, hX]; simp)
          obtain ⟨fn, tmps, assign, body, hy, hR⟩ := hY pre X wr hJs (by omega)
          rw [hX, rowV] at hy
          simp only at hy
          clear hX hkd HR'
          gi_wp2
          refine hR.mono ?_
          rintro e W3 (⟨rfl, hJ3, hk3⟩ | ⟨rfl, hJx3⟩)
          · gi_wp2
            go_roundw
            case rel => exact ⟨k + 1, k + 1, pre ++ [X], by go_num, by go_num, Nat.le_refl _, by omega, fun _ => rfl, by simp; omega, HRn, hJ3, hKB.trans hk3⟩
            case measure => simp [intOf] <;> omega
          · gi_wp2
            rw [Exit.noGoto_normal]
            go_end0
            exact ⟨⟨_, rfl⟩, .inr ⟨pre ++ [X], by rw [HRn.out]; exact List.prefix_append _ _, hJx3⟩⟩
        · have k3 : ¬ (f : Int) < (k : Int) := by omega
          obtain rfl : f = k := by omega
          have HRn : Hid (R0 = rgL pre ++ rng (f + 1) (f + 1) (L.drop (f + 1))) := Lib.hid (by rw [HR'.out, rng, if_pos hkd, if_neg hlt]; simp)
          clear hkd HR'
          gi_wp2
          refine ⟨fun _ _ => trivial, ?_⟩
          gi_wp2
          go_roundw
          case rel => exact ⟨f + 1, f + 1, pre, by go_num, by go_num, Nat.le_refl _, by omega, fun _ => rfl, by omega, HRn, hJs, hKB⟩
          case measure => simp [intOf] <;> omega
      · have hz' : (kd == 0) = false := by simpa using hz
        have hz2 : (kd != 0) = true := by simpa using hz
        have HRn : Hid (R0 = rgL pre ++ rng f (k + 1) (L.drop (k + 1))) := Lib.hid (by rw [HR'.out, rng, if_neg (by rw [hkd]; exact hz)])
        clear hkd HR'
        gi_wp2
        go_roundw
        case rel => exact ⟨f, k + 1, pre, by go_num, by go_num, by omega, by omega, by omega, hpf, HRn, hJs, hKB⟩
        case measure => simp [intOf] <;> omega
    · obtain rfl : k = N := by omega
      have HR' : Hid (R0 = rgL pre ++ rng f k []) := Lib.hid (by rw [HR.out, List.drop_of_length_le (Nat.le_of_eq HN.out)])
      have hdn : L.drop (k + 1) = [] := List.drop_of_length_le (by rw [HN.out]; omega)
      by_cases hlt : f < k
      · have k3 : (f : Int) < (k : Int) := by omega
        obtain rfl := hA (by omega)
        obtain ⟨X, hX⟩ : ∃ X : RgI k, X.val = (f, k) := ⟨⟨(f, k), hlt, Nat.le_refl _⟩, rfl⟩
        have HRn : Hid (R0 = rgL (pre ++ [X]) ++ rng (k + 1) (k + 1) (L.drop (k + 1))) := Lib.hid (by rw [HR'.out, rng, if_pos hlt, rgL_snoc, hX, hdn, rng_nil_end]; simp)
        obtain ⟨fn, tmps, assign, body, hy, hR⟩ := hY pre X wr hJs (by omega)
        rw [hX, rowV] at hy
        simp only at hy
        clear hX HR' HR hdn
        gi_wp2
        refine hR.mono ?_
        rintro e W3 (⟨rfl, hJ3, hk3⟩ | ⟨rfl, hJx3⟩)
        · gi_wp2
          go_roundw
          case rel => exact ⟨k + 1, k + 1, pre ++ [X], by go_num, by go_num, Nat.le_refl _, by omega, fun _ => rfl, by simp; omega, HRn, hJ3, hKB.trans hk3⟩
          case measure => simp [intOf] <;> omega
        · gi_wp2
          rw [Exit.noGoto_normal]
          go_end0
          exact ⟨⟨_, rfl⟩, .inr ⟨pre ++ [X], by rw [HRn.out]; exact List.prefix_append _ _, hJx3⟩⟩
      · have k3 : ¬ (f : Int) < (k : Int) := by omega
        obtain rfl : f = k := by omega
        have HRn : Hid (R0 = rgL pre ++ rng (f + 1) (f + 1) (L.drop (f + 1))) := Lib.hid (by rw [HR'.out, rng, if_neg hlt, hdn, rng_nil_end])
        clear HR' HR hdn
        gi_wp2
        refine ⟨fun _ _ => trivial, ?_⟩
        gi_wp2
        go_roundw
        case rel => exact ⟨f + 1, f + 1, pre, by go_num, by go_num, Nat.le_refl _, by omega, fun _ => rfl, by omega, HRn, hJs, hKB⟩
        case measure => simp [intOf] <;> omega
end Go.Proofs.YtnognphjndpgkaaGreatDoor

/- All blocks of steps that may be, as block.blocks hands them on: the iterator's contract. -/
namespace Go.Proofs.YtnognphjndpgkaaGreatDoor
open Go.RowKit Go.Shelf
attribute [local go_sem] Oper.semAt_some

theorem kf_below {B : Nat} {W W' : World} (h : Below W.heap.size W W') : KeepsFrom B W W' := ⟨h.size, fun k _ _ hk _ => (h.block k (Array.getElem?_eq_some_iff.1 hk).1).trans hk⟩
theorem kf_up {B C : Nat} {W W' : World} (h : KeepsFrom B W W') (hB : B ≤ C) : KeepsFrom C W W' := ⟨h.size, fun k o hk h0 ho => h.same k o (Nat.le_trans hB hk) h0 ho⟩

theorem riter_stops (n : Nat) (hn : 1 ≤ n) (Bs n₀ : Nat) (A : Option Addr) (N c b o : Nat) (L : List St) (hN : L.length = N) (hL : N ≤ 1000000) (hA : 0 < N → A = some ⟨b, o, none⟩) (w0 : World) (hw0 : w0.heap.size = n₀) (hx : StRuns w0 (.slice A N c) L)
    (w : World) (hn0 : n₀ ≤ w.heap.size) (hW0 : Below n₀ w0 w) (hBs : Bs < w.heap.size) (hc : w.cell? ⟨Bs, 0, none⟩ = some (.slice A N c)) :
    SeqStopsK Fence.wide n Tryz.prog 97 #[.pointer (some ⟨Bs, 0, none⟩)] (fun x : RgI N => #[rowV b o c x.val]) (Keep n₀ Bs) (fun ys => rgL ys = rng 0 0 L) (fun pre => rgL pre <+: rng 0 0 L) N w :=
  fun l J Jx W hW hJ _ hY h0 => riter_in n hn l Bs n₀ A N c b o L hN hL hA w0 hw0 hx J Jx W hJ hY (Nat.le_trans hn0 hW.size) (hW0.trans (hW.mono hn0)) (Nat.lt_of_lt_of_le hBs hW.size) ((hW.cell (p := ⟨Bs, 0, none⟩) hBs).trans hc) h0

/-- rows(l): l is boxed, and the function value captures the box. -/
theorem rowsFn_any (A : Option Addr) (n c : Nat) (w : World) :
    Calls Tryz.prog 76 #[.slice A n c] w fun e w' => e = .returned (.func (.func 97) #[] #[.pointer (some ⟨w.heap.size, 0, none⟩)]) ∧ w' = w.alloc (.cells #[.slice A n c] 65) := by
  go_enter Tryz.func76, Tryz.ntmps76
  go_wp2
  go_ret
  exact ⟨rfl, rfl⟩
theorem blocksFn_any (A : Option Addr) (n c : Nat) (w : World) :
    Calls Tryz.prog 52 #[.slice A n c] w fun e w' => e = .returned (.func (.func 75) #[] #[.pointer (some ⟨w.heap.size, 0, none⟩)]) ∧ w' = w.alloc (.cells #[.slice A n c] 65) := by
  go_enter Tryz.func52, Tryz.ntmps52
  go_wp2
  go_ret
  exact ⟨rfl, rfl⟩

/-- A block of texts that aren't too great. -/
abbrev BkI := { b : Blk // b.1.size ≤ 8000000 ∧ b.2.1.size ≤ 8000000 }
def bkL (l : List BkI) : List Blk := l.map (·.val)
theorem bkL_snoc (l : List BkI) (x : BkI) : bkL (l ++ [x]) = bkL l ++ [x.val] := by simp [bkL]
theorem cut_small (L : List St) (N : Nat) (hN : L.length = N) (hL : N ≤ 1000000) (p : RgI N) : (blkOf (cutR L p.val)).1.size ≤ 8000000 ∧ (blkOf (cutR L p.val)).2.1.size ≤ 8000000 := by
  have h1 := cutR_len L p.val (by rw [hN]; exact p.property.2)
  have h2 := p.property.2
  obtain ⟨h3, h4⟩ := read_size (cutR L p.val)
  refine ⟨?_, ?_⟩
  · show (mkB (readA (cutR L p.val))).size ≤ _
    rw [Lib.size_eq, mkB_data]; omega
  · show (mkB (readB (cutR L p.val))).size ≤ _
    rw [Lib.size_eq, mkB_data]; omega
def mkI (L : List St) (N : Nat) (hN : L.length = N) (hL : N ≤ 1000000) (p : RgI N) : BkI := ⟨blkOf (cutR L p.val), cut_small L N hN hL p⟩
theorem mkI_all (L : List St) (N : Nat) (hN : L.length = N) (hL : N ≤ 1000000) (ys : List (RgI N)) (h : rgL ys = rng 0 0 L) : bkL (ys.map (mkI L N hN hL)) = (rowsP L).map blkOf := by
  rw [← rng_all, ← h, bkL, rgL, List.map_map, List.map_map, List.map_map]
  rfl

set_option maxRecDepth 100000 in
set_option maxHeartbeats 4000000 in
theorem biter5 (Bs n₀ : Nat) (A : Option Addr) (N c b o : Nat) (L : List St) (hN : L.length = N) (hL : N ≤ 1000000) (hA : 0 < N → A = some ⟨b, o, none⟩) (hfit : stFit L) (w0 : World) (hO : Okw w0) (hw0 : w0.heap.size = n₀) (hx : StRuns w0 (.slice A N c) L)
    (w : World) (hn0 : n₀ ≤ w.heap.size) (hW0 : Below n₀ w0 w) (hBs : Bs < w.heap.size) (hc : w.cell? ⟨Bs, 0, none⟩ = some (.slice A N c)) :
    SeqT 5 Tryz.prog 75 #[.pointer (some ⟨Bs, 0, none⟩)] (fun x : BkI => #[blkV x.val]) (Keep n₀ Bs) (fun ys => bkL ys = (rowsP L).map blkOf) N w := by
  intro l J W hW hJ hY h0
  have hcW : W.cell? ⟨Bs, 0, none⟩ = some (.slice A N c) := (hW.cell (p := ⟨Bs, 0, none⟩) hBs).trans hc
  have hBW : Bs < W.heap.size := Nat.lt_of_lt_of_le hBs hW.size
  have hnW : n₀ ≤ W.heap.size := Nat.le_trans hn0 hW.size
  have hbW : Below n₀ w0 W := hW0.trans (hW.mono hn0)
  have hcA : (W.alloc (.cells #[.func (.yield l) #[] #[]] 124)).cell? ⟨Bs, 0, none⟩ = some (.slice A N c) := (((Below.refl _ W).alloc (Nat.le_refl _) _).cell (p := ⟨Bs, 0, none⟩) hBW).trans hcW
  refine callsIn_of_wp_marks Tryz.func75 rfl trivial ?_ rfl
  simp only [Tryz.ntmps75, List.size_toArray, List.length_cons, List.length_nil, Nat.reduceAdd, Nat.reduceSub, Array.replicate_succ, Array.replicate_zero, List.push_toArray, List.append_toArray, List.nil_append, List.cons_append]
  gi_wp2_with (refine ⟨trivial, ?_⟩; gi_at_call 76; refine (callsIn_wide.2 (rowsFn_any _ _ _ _)).mono ?_; rintro e w' ⟨rfl, rfl⟩)
  have bY := Boxed.new W 124 (.func (.yield l) #[] #[])
  have bS := Boxed.new (W.alloc (.cells #[.func (.yield l) #[] #[]] 124)) 65 (.slice A N c)
  rw [World.size_alloc] at bS
  have hB0 : Below W.heap.size W ((W.alloc (.cells #[.func (.yield l) #[] #[]] 124)).alloc (.cells #[.slice A N c] 65)) := ((Below.refl _ W).alloc (Nat.le_refl _) _).alloc (by simp) _
  refine wpIn_rangeFunc_ownH rfl (by decide) (gf := 97) (lb := #[.pointer (some ⟨W.heap.size + 1, 0, none⟩)]) rfl trivial (enters_of Tryz.func97 (by kernel_rfl) rfl)
    (riter_stops 4 (by decide) (W.heap.size + 1) n₀ A N c b o L hN hL hA w0 hw0 hx _ (by simp; omega) (hbW.trans (hB0.mono hnW)) (by simp) bS.cell) Keep.trans (keepK_b (by simp; omega) (by simp)) (Below.refl _ _) (fun _ => rfl)
    (fun (pre : List (RgI N)) W' => J (pre.map (mkI L N hN hL)) W' ∧ Boxed W' W.heap.size 124 (.func (.yield l) #[] #[]) ∧ Boxed W' (W.heap.size + 1) 65 (.slice A N c) ∧ W'.heap[Bs]? = W.heap[Bs]? ∧ Below n₀ w0 W')
    (fun _ _ _ => False)
    (fun pre X Y row hx hg hr => by
      obtain ⟨hj, y1, y2, y3, y4⟩ := hx
      have hsz := y2.lt
      have hr' : ∀ r, row = some r → W.heap.size + 2 ≤ r ∧ ∃ o : Obj, X.heap[r]? = some o ∧ o.isCells = false := fun r e => ⟨by have := (hr r e).1; simp at this; omega, (hr r e).2⟩
      have hne : ∀ k, k < W.heap.size + 2 → some k ≠ row := fun k hk e => by have := (hr' k e.symm).1; omega
      exact ⟨hJ _ X Y hj (by omega) (Priv.of_grown hg hr' (by omega)), y1.kept hg (hne _ (by omega)), y2.kept hg (hne _ (by omega)), (hg.block Bs (by omega) (hne _ (by omega))).trans y3, y4.trans ⟨hg.os, hg.tape, hg.output, hg.size, fun k hk => hg.block k (by omega) (hne _ (by omega))⟩⟩)
    (fun c => ownFrom_pure _ (fun _ => False))
    ⟨hJ _ _ _ h0 (Nat.le_refl _) (Priv.of_below hB0 (Nat.le_refl _)), bY.alloc _, bS, hB0.block Bs hBW, hbW.trans (hB0.mono hnW)⟩
    (fun x a' W' => a' = { tmps := #[.func (.yield l) #[] #[], .pointer (some ⟨Bs, 0, none⟩), .pointer (some ⟨W.heap.size, 0, none⟩), rowV b o c x.val, undef, undef, undef, .slice A N c, .func (.func 97) #[] #[.pointer (some ⟨W.heap.size + 1, 0, none⟩)], rowV b o c x.val, undef, undef, undef, undef, undef, undef, undef, undef, undef, undef, undef, undef], defers := [] })
    (fun x a' s X Y row hx hg hr => hx)
    ?assign ?body ?done ?stop
  case assign =>
    rintro l' pre x W' K ⟨hj, y1, y2, y3, y4⟩ hK
    have hsz := y2.lt
    gi_wp2
    exact hK _ _ (kf_below (Below.refl _ _)) (Keep.refl _ _ _) ⟨hj, y1, y2, y3, y4⟩ rfl
  case body =>
    rintro l' pre x a' W' hl' _ ⟨hj, y1, y2, y3, y4⟩ rfl hlt
    have hsz := y2.lt
    have hcy := y1.cell
    obtain ⟨q1, q2⟩ := x.property
    obtain rfl := hA (by omega)
    have hrow : StRuns W' (rowV b o c x.val) (cutR L x.val) := (hx.below (hw0.symm ▸ y4)).cut hN x.val q1 q2
    have hlen : (cutR L x.val).length ≤ 1000000 := by rw [cutR_len L x.val (by rw [hN]; exact q2)]; omega
    have cR := read_any (cutR L x.val) hlen (fun s hs => hfit s (cutR_mem L x.val s hs)) W' _ (hO.below (hw0.symm ▸ y4)) hrow
    obtain ⟨ra, hra⟩ : ∃ z, (⟨(readA (cutR L x.val)).toArray⟩ : ByteArray) = z := ⟨_, rfl⟩
    obtain ⟨rb, hrb⟩ : ∃ z, (⟨(readB (cutR L x.val)).toArray⟩ : ByteArray) = z := ⟨_, rfl⟩
    obtain ⟨er, her⟩ : ∃ z, stErr (cutR L x.val) = z := ⟨_, rfl⟩
    have hb : blkOf (cutR L x.val) = (ra, rb, 1) := by rw [← hra, ← hrb]; rfl
    rw [hra, hrb, her] at cR
    have CR := Lib.hid cR
    have HB := Lib.hid hb
    clear cR hra hrb her hb hrow hlen
    rw [rowV] at CR ⊢
    gi_wp2_with (refine ⟨trivial, ?_⟩; gi_at_call 74; refine (CallsIn.inRound l' (callsIn_wide.2 CR.out)).mono ?_; rintro e w1 ⟨rfl, hb1⟩; have hcy1 : w1.cell? ⟨W.heap.size, 0, none⟩ = some (.func (.yield l) #[] #[]) := (hb1.cell (p := ⟨W.heap.size, 0, none⟩) y1.lt).trans hcy; obtain ⟨fn, tmps, assign, body, hy, hR⟩ := yield_deep (l' := l') (m' := 2) (hY (pre.map (mkI L N hN hL)) (mkI L N hN hL x) w1 (hJ _ _ _ hj (by omega) (Priv.of_below hb1 (by omega))) (by simpa using hlt) (Nat.le_trans hsz hb1.size)); have hy' := hy; rw [show (mkI L N hN hL x).val = (ra, rb, 1) from HB.out, blkV] at hy'; simp only at hy'; clear hy)
    refine hR.mono ?_
    rintro e W3 ⟨rfl, hj3, hkp3, hkf3, hk23⟩
    gi_wp2
    exact ⟨(kf_below hb1).trans (kf_up hkf3 (by simp; omega)), (Keep.of_below hb1 (by omega) hsz).trans ⟨hkp3.1, hk23 _ (by omega) (by omega)⟩, by rw [List.map_append]; exact hj3, (hk23 _ (by omega) (by omega)).trans ((hb1.block _ (by omega)).trans y1), (hk23 _ (by omega) (by omega)).trans ((hb1.block _ (by omega)).trans y2), hkp3.2.trans ((hb1.block _ (by omega)).trans y3), (y4.trans (hb1.mono (by omega))).trans hkp3.1⟩
  case done =>
    rintro D ys W' hD hys ⟨hj, y1, y2, y3, y4⟩ hK
    gi_wp2
    refine ⟨by simp, .inl ⟨_, _, rfl, run_takeDeferred hK, ?_⟩⟩
    refine ⟨_, results_none rfl _ _ _, ⟨_, rfl⟩, _, mkI_all L N hN hL ys hys, ?_⟩
    have hsz := y2.lt
    exact hJ _ _ _ hj (by omega) (Priv.of_grown (grownBy_putObj' W' D (.deferred none)) (fun r e => by cases e; exact ⟨by simp at hD; omega, _, hK, rfl⟩) (by omega))
  case stop => exact fun D c pre W hD hp hF _ => hF.elim
end Go.Proofs.YtnognphjndpgkaaGreatDoor

