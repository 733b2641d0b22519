/- Texts that several proofs of this seat share, one behind the other: CTab CPair DPairs QLrn ELaw EPai VLrn Frame GArg. -/
import Derived.Test.YtnognphjndpgkaaGreatDoorPk12
import Derived.Test.YtnognphjndpgkaaGreatDoorPk11
import Derived.Test.YtnognphjndpgkaaGreatDoorPk17
import Derived.Test.YtnognphjndpgkaaGreatDoorPk15
import Derived.Test.YtnognphjndpgkaaGreatDoorPk16
import Derived.Test.YtnognphjndpgkaaGreatDoorPk2
import Derived.Test.YtnognphjndpgkaaGreatDoorCards
import Derived.Test.YtnognphjndpgkaaGreatDoorTie
import Derived.OpenShut
import Derived.Deep.DeepHandedRow
import Derived.Lib.LaidTab
import Derived.Lib.LaidU8T
import Derived.Carry
import Derived.Test.YtnognphjndpgkaaGreatDoorPk3
import Derived.Test.YtnognphjndpgkaaGreatDoorRows
import Derived.Lib.SmallJoins
import Derived.SliceStrings
import Derived.Deep.Slices
import Derived.ChangeArms
/- errataref06.Table: blocks, each once, in order, counted, or why they may not be. -/
namespace Go.Proofs.YtnognphjndpgkaaGreatDoor
open Go.RowKit Go.Shelf
set_option linter.unusedSimpArgs false
set_option linter.unusedVariables false

set_option maxRecDepth 100000 in
set_option maxHeartbeats 8000000 in
theorem refTable_wide (u : Value) (l : List Blk) (w : World) (hu : BRuns w u l) (hl : l.length ≤ 1000000) (hz : ∀ b ∈ l, b.1.size ≤ 2000000 ∧ b.2.1.size ≤ 2000000) :
    Calls Tryz.prog 23 #[u] w fun e w' => ∃ v, e = .returned (.tuple #[v, .int .i64 (tabE l)]) ∧ BRuns w' v (tabS l) ∧ Below w.heap.size w w' := by
  obtain ⟨A, c, e⟩ := hu.slice
  subst e
  have HU := Lib.hid hu; clear hu
  have cg := fun w hu hok => refGathered_any (.slice A l.length c) l w hu hl hok
  have cs := fun w hu hok => refSum_any (.slice A l.length c) l w hu (by omega) hok
  obtain ⟨n, hn⟩ : ∃ n, l.length = n := ⟨_, rfl⟩
  obtain ⟨gm, hgm⟩ : ∃ z, (gat l).length = z := ⟨_, rfl⟩
  obtain ⟨g, hg⟩ : ∃ z, gat l = z := ⟨_, rfl⟩
  obtain ⟨sN, hsN⟩ : ∃ z, sumN l = z := ⟨_, rfl⟩
  have hglen : gm ≤ n := by rw [← hgm, ← hn]; exact gat_len l
  have hT : tabE l = if chkAll l = 0 then (if 4096 < gm ∨ 1073741824 < sN then 6 else 0) else chkAll l := by rw [tabE, hgm, hsN]
  have hS : tabS l = if tabE l = 0 then g else [] := by rw [tabS, hg]
  obtain ⟨res, hres⟩ : ∃ r, tabE l = r := ⟨_, rfl⟩
  rw [hres] at hT hS ⊢
  rw [hg] at hgm
  simp only [hn, hg, hgm] at cg
  simp only [hn, hsN] at cs
  obtain ⟨X, hX⟩ : ∃ X, tabS l = X := ⟨_, rfl⟩
  rw [hX] at hS ⊢
  have HX := Lib.hid hS
  have HT := Lib.hid hT; clear hT hres hS hX
  rw [hn] at hl HU ⊢
  have HN := Lib.hid hn; have HGM := Lib.hid hgm; clear hn hg hgm hsN
  have HZ := Lib.hid hz; clear hz
  have CG := Lib.hid cg; have CS := Lib.hid cs; clear cg cs
  have C5 := Lib.hid refCheck5_any
  go_enter Tryz.func23, Tryz.ntmps23
  go_wp2
  go_loopw [10] (fun s10 wr => ∃ k : Nat, k ≤ n ∧ s10 = .int .i64 k ∧ Hid (chkAll (l.take k) = 0) ∧ Hid (Below w.heap.size w wr)) (fun s10 _ => n - (RowKit.intOf s10).toNat)
  case atStart => exact ⟨0, Nat.zero_le _, rfl, Lib.hid rfl, Lib.hid (Below.refl _ _)⟩
  case round =>
    obtain ⟨k, hkn, rfl, HC, BW⟩ := hrel
    by_cases hk : k < n
    · have k1 : (k : Int) < (n : Int) := by omega
      obtain ⟨⟨p1, p2, p3⟩, hp⟩ : ∃ p, l[k]? = some p := ⟨_, List.getElem?_eq_getElem (by rw [HN.out]; exact hk)⟩
      obtain ⟨b, o, rfl, _, hc⟩ := (HU.out.below BW.out).cells HN.out (by omega)
      obtain ⟨g0, g1, g2⟩ := blk_cells hc hp
      simp only at g0 g1 g2
      have hz1 := HZ.out _ (List.mem_of_getElem? hp)
      have hch := chkAll_take k _ hp HC.out
      simp only at hz1
      obtain ⟨er, her⟩ : ∃ z, chkS (p1, p2, p3) = z := ⟨_, rfl⟩
      rw [her] at hch
      have HCH := Lib.hid hch
      have hal : Hid (Below w.heap.size w (wr.alloc (.cells #[.string p1, .string p2, .int .i64 p3] 34))) := Lib.hid (BW.out.alloc BW.out.size _)
      have c5 := C5.out p1 p2 p3 (wr.alloc (.cells #[.string p1, .string p2, .int .i64 p3] 34)) (by omega) (by omega)
      rw [her] at c5
      have CC := Lib.hid c5
      clear hc hp hch c5 her
      go_wp2_with fail
      refine CC.out.mono ?_
      rintro e w5 ⟨rfl, b5⟩
      have B5 : Hid (Below w.heap.size w w5) := Lib.hid (hal.out.trans (b5.mono hal.out.size))
      clear b5
      by_cases h0 : er = 0
      · subst h0
        go_wp2
        exact ⟨⟨k + 1, by omega, by go_num, Lib.hid (HCH.out.1 (by first | rfl | trivial)), B5⟩, by simp [RowKit.intOf]; omega⟩
      · have h0' : (er == 0) = false := by simpa using h0
        have hr : Hid (res = er) := Lib.hid (by rw [HT.out, if_neg (by rw [HCH.out.2 h0]; exact h0), HCH.out.2 h0])
        go_wp2
        go_ret2
        exact ⟨_, by rw [hr.out]; rfl, by rw [HX.out, if_neg (by rw [hr.out]; exact h0)]; exact GRuns.nil_ _ _ _, B5.out⟩
    · obtain rfl : k = n := by omega
      have HC0 : Hid (chkAll l = 0) := Lib.hid (by have := HC.out; rwa [← HN.out, List.take_length] at this)
      clear HC
      have OK := Lib.hid (okN_of HC0.out)
      have U2 := Lib.hid (HU.out.below BW.out)
      go_wp2_with fail
      refine (CG.out _ U2.out OK.out).mono ?_
      rintro e w5 ⟨v, rfl, ho, b5⟩
      have gR := GRuns.of_own blk_ln HGM.out ho
      obtain ⟨A', c', hv⟩ := gR.slice
      rw [HGM.out] at hv
      subst hv
      have GR := Lib.hid gR; clear gR ho
      have U5 := Lib.hid (U2.out.below b5)
      have B5 : Hid (Below w.heap.size w w5) := Lib.hid (BW.out.trans (b5.mono BW.out.size))
      clear b5
      by_cases hbig : 4096 < gm
      · have hb1 : (4096 : Int) < (gm : Int) := by omega
        have hr : Hid (res = 6) := Lib.hid (by rw [HT.out, if_pos HC0.out, if_pos (.inl hbig)])
        go_wp2
        go_ret2
        exact ⟨_, by rw [hr.out]; rfl, by rw [HX.out, if_neg (by rw [hr.out]; decide)]; exact GRuns.nil_ _ _ _, B5.out⟩
      · have hb1 : ¬ (4096 : Int) < (gm : Int) := by omega
        go_wp2_with fail
        refine (CS.out _ U5.out OK.out).mono ?_
        rintro e w6 ⟨rfl, b6⟩
        have B6 : Hid (Below w.heap.size w w6) := Lib.hid (B5.out.trans (b6.mono B5.out.size))
        have G6 := Lib.hid (GR.out.below b6)
        clear b6
        by_cases hsum : 1073741824 < sN
        · have hr : Hid (res = 6) := Lib.hid (by rw [HT.out, if_pos HC0.out, if_pos (.inr hsum)])
          go_wp2
          go_ret2
          exact ⟨_, by rw [hr.out]; rfl, by rw [HX.out, if_neg (by rw [hr.out]; decide)]; exact GRuns.nil_ _ _ _, B6.out⟩
        · have hr : Hid (res = 0) := Lib.hid (by rw [HT.out, if_pos HC0.out, if_neg (by omega)])
          go_wp2
          go_ret2
          exact ⟨_, by rw [hr.out]; rfl, by rw [HX.out, if_pos hr.out]; exact G6.out, B6.out⟩
theorem refTable_any (u : Value) (l : List Blk) (w : World) (hu : BRuns w u l) (hl : l.length ≤ 10000) (hz : szB l) :
    Calls Tryz.prog 23 #[u] w fun e w' => ∃ v, e = .returned (.tuple #[v, .int .i64 (tabE l)]) ∧ BRuns w' v (tabS l) ∧ Below w.heap.size w w' :=
  refTable_wide u l w hu (by omega) (fun b hb => by have := hz b hb; omega)
end Go.Proofs.YtnognphjndpgkaaGreatDoor

/- Many pairs of texts: their blocks, plain; errataref06.Pairs. -/
namespace Go.Proofs.YtnognphjndpgkaaGreatDoor
open Go.RowKit Go.Shelf
set_option linter.unusedSimpArgs false
set_option linter.unusedVariables false

abbrev Pr : Type := ByteArray × ByteArray
def prCell (p : Pr) : List Value := [.string p.1, .string p.2]
abbrev PRuns (w : World) (v : Value) (l : List Pr) : Prop := GRuns prCell 2 w v l
theorem pr_cells {w : World} {b o j : Nat} {x : Pr} {l : List Pr} (h : ∀ j x, l[j]? = some x → ∀ i u, (prCell x)[i]? = some u → w.cell? ⟨b, o + j * 2 + i, none⟩ = some u) (hj : l[j]? = some x) :
    w.cell? ⟨b, o + j * 2, none⟩ = some (.string x.1) ∧ w.cell? ⟨b, o + j * 2 + 1, none⟩ = some (.string x.2) := ⟨h j x hj 0 _ rfl, h j x hj 1 _ rfl⟩
def prE (p : Pr) : Int := tokErr2 p.1.data.toList p.2.data.toList
def prB (p : Pr) : List Blk := ofS (stepsS p.1.data.toList p.2.data.toList)
/-- The first pair's error that has one, or 0. -/
def prErr : List Pr → Int
  | [] => 0
  | p :: l => if prE p = 0 then prErr l else prE p
def prBlks (l : List Pr) : List Blk := l.flatMap prB
def parE (l : List Pr) : Int := if 65536 < l.length then 6 else if prErr l = 0 then tabE (prBlks l) else prErr l
def parS (l : List Pr) : List Blk := if parE l = 0 then gat (prBlks l) else []

theorem prErr_zero {l : List Pr} : prErr l = 0 ↔ ∀ p ∈ l, prE p = 0 := by
  induction l with
  | nil => simp [prErr]
  | cons a l ih =>
    rw [prErr]
    split
    · rename_i h
      rw [ih]
      constructor
      · intro h2 b hb
        rcases List.mem_cons.1 hb with rfl | hb
        · exact h
        · exact h2 b hb
      · exact fun h2 b hb => h2 b (by simp [hb])
    · rename_i h
      exact ⟨fun h2 => absurd h2 h, fun h2 => absurd (h2 a (by simp)) h⟩
theorem prErr_append (a b : List Pr) : prErr (a ++ b) = if prErr a = 0 then prErr b else prErr a := by
  induction a with
  | nil => simp [prErr]
  | cons p a ih =>
    rw [List.cons_append, prErr, prErr, ih]
    by_cases h : prE p = 0
    · simp [h]
    · simp [h]
theorem prErr_take {l : List Pr} (k : Nat) (x : Pr) (h : l[k]? = some x) (h0 : prErr (l.take k) = 0) : (prE x = 0 → prErr (l.take (k + 1)) = 0) ∧ (prE x ≠ 0 → prErr l = prE x) := by
  refine ⟨fun hx => ?_, fun hx => ?_⟩
  · rw [List.take_add_one, h, prErr_append, if_pos h0]; simp [prErr, hx]
  · have e : l = l.take k ++ x :: l.drop (k + 1) := by
      have hk := (List.getElem?_eq_some_iff.1 h).1
      have hx2 := (List.getElem?_eq_some_iff.1 h).2
      rw [← hx2, ← List.drop_eq_getElem_cons hk, List.take_append_drop]
    rw [e, prErr_append, if_pos h0, prErr, if_neg hx]
theorem prBlks_take {l : List Pr} {k : Nat} {x : Pr} (h : l[k]? = some x) : prBlks (l.take (k + 1)) = prBlks (l.take k) ++ prB x := by
  rw [List.take_add_one, h, prBlks, List.flatMap_append]; simp [prBlks]
theorem prB_may (p : Pr) : ∀ b ∈ prB p, chkS b = 0 ∧ b.2.2 = 1 := fun b hb => ⟨(ofS_may b hb).1, (ofS_may b hb).2.1⟩
theorem prB_sz (p : Pr) : ∀ b ∈ prB p, b.1.size ≤ 12 ∧ b.2.1.size ≤ 12 := by
  intro b hb
  have hb0 := hb
  unfold prB ofS at hb
  split at hb
  · rename_i hg
    obtain ⟨r, hr, rfl⟩ := List.mem_map.1 hb
    obtain ⟨hr1, hr2⟩ := List.mem_filter.1 hr
    have hgood := rows_good hg r hr1
    obtain ⟨e1, e2, _⟩ := row_texts hgood
    simp only [Bool.and_eq_true, Bool.not_eq_true', longB, decide_eq_false_iff_not] at hr2
    have l1 := encL_size (stA r)
    have l2 := encL_size (stB r)
    have s1 : (blkOf r).1.size = (readA r).length := by
      show (mkB (readA r)).data.size = _
      rw [← Array.length_toList, mkB_data]
    have s2 : (blkOf r).2.1.size = (readB r).length := by
      show (mkB (readB r)).data.size = _
      rw [← Array.length_toList, mkB_data]
    rw [s1, s2, e1, e2]
    omega
  · simp at hb
theorem prB_len (p : Pr) : (prB p).length ≤ 64 := by
  unfold prB
  by_cases h : tokErr2 p.1.data.toList p.2.data.toList = 0
  · have h1 := ofS_count (stepsS p.1.data.toList p.2.data.toList)
    obtain ⟨_, _, _, f4, _⟩ := steps_facts _ _ h
    obtain ⟨t1, t2⟩ := tokErr2_parts h
    have r1 := tok_len t1
    have r2 := tok_len t2
    have h3 := levR_max (tokRunes p.1.data.toList).reverse (tokRunes p.2.data.toList).reverse
    have h4 : distS p.1.data.toList p.2.data.toList = levR (tokRunes p.1.data.toList).reverse (tokRunes p.2.data.toList).reverse := by rw [distS, if_pos h]
    simp only [List.length_reverse] at h3
    omega
  · have e : stepsS p.1.data.toList p.2.data.toList = [] := by rw [stepsS, if_neg h]
    have h1 := ofS_count ([] : List St)
    have h2 : stC ([] : List St) = 0 := rfl
    rw [e]
    omega
theorem prBlks_may (l : List Pr) : chkAll (prBlks l) = 0 := chkAll_zero.2 (fun b hb => by
  obtain ⟨p, _, hp⟩ := List.mem_flatMap.1 hb
  exact (prB_may p b hp).1)
theorem prBlks_sz (l : List Pr) : ∀ b ∈ prBlks l, b.1.size ≤ 12 ∧ b.2.1.size ≤ 12 := fun b hb => by
  obtain ⟨p, _, hp⟩ := List.mem_flatMap.1 hb
  exact prB_sz p b hp
theorem prBlks_len (l : List Pr) : (prBlks l).length ≤ l.length * 64 := by
  induction l with
  | nil => simp [prBlks]
  | cons p l ih =>
    have h1 := prB_len p
    show (prB p ++ prBlks l).length ≤ _
    rw [List.length_append, List.length_cons]
    omega
/-- Each pair that is reached has texts no longer than so much. -/
def prSz (l : List Pr) : Prop := ∀ i p, l[i]? = some p → prErr (l.take i) = 0 → p.1.size ≤ 2000000 ∧ p.2.size ≤ 2000000

set_option maxRecDepth 100000 in
set_option maxHeartbeats 8000000 in
theorem refPairs_any (u : Value) (l : List Pr) (w : World) (hu : PRuns w u l) (hl : l.length ≤ 100) (hz : prSz l) :
    Calls Tryz.prog 11 #[u] w fun e w' => ∃ v, e = .returned (.tuple #[v, .int .i64 (parE l)]) ∧ BRuns w' v (parS l) ∧ Below w.heap.size w w' := by
  obtain ⟨A, c, e⟩ := hu.slice
  subst e
  have HU := Lib.hid hu; clear hu
  have ct := fun v w hv hl => refTable_any v (prBlks l) w hv hl (fun b hb => by have := prBlks_sz l b hb; omega)
  obtain ⟨n, hn⟩ : ∃ n, l.length = n := ⟨_, rfl⟩
  have hE : parE l = if prErr l = 0 then tabE (prBlks l) else prErr l := by rw [parE, if_neg (by omega)]
  have hS : parS l = if prErr l = 0 then tabS (prBlks l) else [] := by
    rw [parS, hE]
    by_cases h : prErr l = 0
    · rw [if_pos h, if_pos h]; rfl
    · rw [if_neg h, if_neg h, if_neg h]
  obtain ⟨R, hR⟩ : ∃ z, parE l = z := ⟨_, rfl⟩
  obtain ⟨X, hX⟩ : ∃ z, parS l = z := ⟨_, rfl⟩
  rw [hR] at hE ⊢
  rw [hX] at hS ⊢
  rw [hn] at hl HU ⊢
  have HE := Lib.hid hE; have HS := Lib.hid hS; have HN := Lib.hid hn; have HZ := Lib.hid hz; have CT := Lib.hid ct
  clear hE hS hn hz hR hX ct
  have CP : Hid (∀ (s t : ByteArray) (w : World), s.size ≤ 2000000 → t.size ≤ 2000000 → Calls Tryz.prog 22 #[.string s, .string t] w fun e w' => ∃ v, e = .returned (.tuple #[v, .int .i64 (prE (s, t))]) ∧ BRuns w' v (prB (s, t)) ∧ Below w.heap.size w w') := Lib.hid (fun s t w h1 h2 => refPair_any s t w (by omega) (by omega))
  have BL := Lib.hid (fun k => prBlks_len (l.take k))
  go_enter Tryz.func11, Tryz.ntmps11
  go_wp2
  go_loopw [4, 14] (fun s4 s14 wr => ∃ k : Nat, k ≤ n ∧ s14 = .int .i64 k ∧ Hid (prErr (l.take k) = 0) ∧ Hid (wr.ownsRow w.heap.size 34 3 s4 (prBlks (l.take k)).length (gCells blkCell (prBlks (l.take k)))) ∧ Hid (Below w.heap.size w wr)) (fun _ s14 _ => n - (RowKit.intOf s14).toNat)
  case atStart => exact ⟨0, Nat.zero_le _, rfl, Lib.hid rfl, Lib.hid (World.ownsRow_nil _ _ _ _), Lib.hid (Below.refl _ _)⟩
  case round =>
    obtain ⟨k, hkn, rfl, HC, HO, BW⟩ := hrel
    by_cases hk : k < n
    · have k1 : (k : Int) < (n : Int) := by omega
      obtain ⟨⟨p1, p2⟩, hp⟩ : ∃ p, l[k]? = some p := ⟨_, List.getElem?_eq_getElem (by rw [HN.out]; exact hk)⟩
      obtain ⟨b, o, rfl, _, hc⟩ := (HU.out.below BW.out).cells HN.out (by omega)
      obtain ⟨g0, g1⟩ := pr_cells hc hp
      simp only at g0 g1
      have hz1 := HZ.out k _ hp HC.out
      simp only at hz1
      have hch := prErr_take k _ hp HC.out
      have hbt := prBlks_take hp
      have hbl := BL.out k
      rw [List.length_take, HN.out] at hbl
      have hpl := prB_len (p1, p2)
      obtain ⟨er, her⟩ : ∃ z, prE (p1, p2) = z := ⟨_, rfl⟩
      obtain ⟨Y, hY⟩ : ∃ z, prB (p1, p2) = z := ⟨_, rfl⟩
      obtain ⟨Q, hQ⟩ : ∃ z, prBlks (l.take k) = z := ⟨_, rfl⟩
      rw [her] at hch
      rw [hY] at hbt hpl
      rw [hQ] at hbt hbl HO
      have hal : Hid (Below w.heap.size w (wr.alloc (.cells #[.string p1, .string p2] 25))) := Lib.hid (BW.out.alloc BW.out.size _)
      have oal := HO.out.alloc (.cells #[.string p1, .string p2] 25)
      have c5 := CP.out p1 p2 (wr.alloc (.cells #[.string p1, .string p2] 25)) hz1.1 hz1.2
      rw [her, hY] at c5
      have CC := Lib.hid c5; have HCH := Lib.hid hch; have HBT := Lib.hid hbt; have OAL := Lib.hid oal
      clear hc hp hch c5 her hY hQ hbt oal HO
      go_wp2_with fail
      refine CC.out.mono ?_
      rintro e w5 ⟨v, rfl, r5, b5⟩
      obtain ⟨A5, c5, e5⟩ := r5.slice
      subst e5
      have O5 := own_below OAL.out b5
      have B5 : Below w.heap.size w w5 := hal.out.trans (b5.mono hal.out.size)
      by_cases h0 : er = 0
      · subst h0
        obtain ⟨v6, w6, hrun, o6, g6, a6⟩ := append_many (P := Tryz.prog) blk_ln blk_one info_blk rfl (by decide) (by decide) Tryz.underlying35 w5 w.heap.size _ _ _ O5 _ Y r5 B5.size (by omega)
        have b6 : Below w.heap.size w w6 := B5.grown g6 B5.size (fun k hk => (O5.lt k hk).1)
        have HRUN := Lib.hid hrun
        have hend : Hid (prErr (l.take (k + 1)) = 0 ∧ w6.ownsRow w.heap.size 34 3 v6 (prBlks (l.take (k + 1))).length (gCells blkCell (prBlks (l.take (k + 1)))) ∧ Below w.heap.size w w6) := Lib.hid ⟨HCH.out.1 (by first | rfl | trivial), by rw [HBT.out, List.length_append, gCells_append]; exact o6, b6⟩
        clear hrun o6 g6 a6 b6 O5 B5 r5 b5 hbl hpl
        go_wp2_with (first
          | (at_builtin; refine wpList_append_run (.tmp 29) (.tmp 30) 35 _ _ _ _ HRUN.out rfl rfl rfl rfl ?_)
          | go_in)
        exact ⟨⟨k + 1, by omega, by go_num, Lib.hid hend.out.1, Lib.hid hend.out.2.1, Lib.hid hend.out.2.2⟩, by simp [RowKit.intOf]; omega⟩
      · have h0' : (er == 0) = false := by simpa using h0
        have hr : Hid (R = er ∧ X = []) := Lib.hid (by
          have e1 := HCH.out.2 h0
          exact ⟨by rw [HE.out, e1, if_neg h0], by rw [HS.out, e1, if_neg h0]⟩)
        have BB := Lib.hid B5
        clear O5 B5 r5 b5
        go_wp2
        go_ret2
        exact ⟨_, by rw [hr.out.1]; rfl, by rw [hr.out.2]; exact GRuns.nil_ _ _ _, BB.out⟩
    · obtain rfl : k = n := by omega
      have h0 := HC.out
      have ho := HO.out
      rw [List.take_of_length_le (by rw [HN.out]; exact Nat.le_refl _)] at h0 ho
      have hr : Hid (R = tabE (prBlks l) ∧ X = tabS (prBlks l)) := Lib.hid ⟨by rw [HE.out, if_pos h0], by rw [HS.out, if_pos h0]⟩
      have gr := GRuns.of_own blk_ln rfl ho
      obtain ⟨A4, c4, e4⟩ := gr.slice
      have hbl := BL.out k
      rw [List.take_of_length_le (by rw [HN.out]; exact Nat.le_refl _), HN.out] at hbl
      have c9 := CT.out _ wr gr (by omega)
      obtain ⟨z, hz'⟩ : ∃ z, (prBlks l).length = z := ⟨_, rfl⟩
      rw [hz'] at e4
      subst e4
      obtain ⟨R', hR'⟩ : ∃ z, tabE (prBlks l) = z := ⟨_, rfl⟩
      obtain ⟨X', hX'⟩ : ∃ z, tabS (prBlks l) = z := ⟨_, rfl⟩
      rw [hR', hX'] at hr c9
      have C9 := Lib.hid c9
      clear c9 h0 ho gr hbl hz' hR' hX' HC HO
      go_wp2_with fail
      refine C9.out.mono ?_
      rintro e w6 ⟨x, rfl, r6, b6⟩
      obtain ⟨A6, c6, e6⟩ := r6.slice
      subst e6
      have R6 := Lib.hid r6
      have B6 := Lib.hid (BW.out.trans (b6.mono BW.out.size)); clear b6 r6
      go_wp2
      go_ret2
      exact ⟨_, by rw [hr.out.1]; rfl, by rw [hr.out.2]; exact R6.out, B6.out⟩
end Go.Proofs.YtnognphjndpgkaaGreatDoor

/- count.Pairs: the table of all blocks of pairs. -/
namespace Go.Proofs.YtnognphjndpgkaaGreatDoor
open Go.RowKit Go.Shelf
set_option linter.unusedSimpArgs false
set_option linter.unusedVariables false

theorem okN_prB (p : Pr) : okN (prB p) := fun b hb => by have := (prB_may p b hb).2; omega

set_option maxRecDepth 100000 in
set_option maxHeartbeats 8000000 in
theorem pairs_any (u : Value) (l : List Pr) (w : World) (hO : Okw w) (hu : PRuns w u l) (hl : l.length ≤ 1000) (hz : prSz l) :
    Calls Tryz.prog 10 #[u] w fun e w' => ∃ v, e = .returned (.tuple #[v, .int .i64 (parE l)]) ∧ BRuns w' v (parS l) ∧ Below w.heap.size w w' := by
  obtain ⟨A, c, e⟩ := hu.slice
  subst e
  have HU := Lib.hid hu; have HOK := Lib.hid hO; clear hu hO
  obtain ⟨n, hn⟩ : ∃ n, l.length = n := ⟨_, rfl⟩
  have hE : parE l = if prErr l = 0 then (if manyB (prBlks l) then 6 else 0) else prErr l := by
    rw [parE, if_neg (by omega)]
    by_cases h : prErr l = 0
    · rw [if_pos h, if_pos h]; exact (tabE_many (prBlks_may l)).1
    · rw [if_neg h, if_neg h]
  have hS : parS l = if prErr l = 0 then (if manyB (prBlks l) then [] else gat (prBlks l)) else [] := by
    rw [parS, hE]
    by_cases h : prErr l = 0
    · rw [if_pos h, if_pos h]
      cases manyB (prBlks l) <;> simp
    · rw [if_neg h, if_neg h, if_neg h]
  obtain ⟨R, hR⟩ : ∃ z, parE l = z := ⟨_, rfl⟩
  obtain ⟨X, hX⟩ : ∃ z, parS l = z := ⟨_, rfl⟩
  rw [hR] at hE ⊢
  rw [hX] at hS ⊢
  rw [hn] at hl HU ⊢
  have HE := Lib.hid hE; have HS := Lib.hid hS; have HN := Lib.hid hn; have HZ := Lib.hid hz
  clear hE hS hn hz hR hX
  have CP : Hid (∀ (s t : ByteArray) (w : World), Okw w → s.size ≤ 2000000 → t.size ≤ 2000000 → Calls Tryz.prog 19 #[.string s, .string t] w fun e w' => ∃ v, e = .returned (.tuple #[v, .int .i64 (prE (s, t))]) ∧ BRuns w' v (prB (s, t)) ∧ Below w.heap.size w w') := Lib.hid (fun s t w hO h1 h2 => pair_at s t (by omega) (by omega) w hO)
  have CN := Lib.hid newTally_any
  obtain ⟨base, hbs⟩ : ∃ z, w.heap.size = z := ⟨_, rfl⟩
  have HBS := Lib.hid hbs
  have hnl : ¬ (65536 : Int) < (n : Int) := by omega
  go_enter Tryz.func10, Tryz.ntmps10
  go_wp2_with fail
  refine (CN.out _).mono ?_
  rintro e w2 ⟨rfl, t2, b2⟩
  rw [hbs] at t2 b2 ⊢
  have T2 := Lib.hid t2; have B2 := Lib.hid b2
  clear t2 b2 hbs
  go_wp2
  go_loopw [17] (fun s17 wr => ∃ k : Nat, k ≤ n ∧ s17 = .int .i64 k ∧ Hid (prErr (l.take k) = 0) ∧ Hid (Tal wr base (base + 1) base (prBlks (l.take k))) ∧ Hid (Below base w wr)) (fun s17 _ => n - (RowKit.intOf s17).toNat)
  case atStart => exact ⟨0, Nat.zero_le _, rfl, Lib.hid rfl, T2, B2⟩
  case round =>
    obtain ⟨k, hkn, rfl, HC, HT, BW⟩ := hrel
    have hbw : base ≤ wr.heap.size := by rw [← HBS.out]; exact BW.out.size
    have BB : Hid (Below w.heap.size w wr) := Lib.hid (by rw [HBS.out]; exact BW.out)
    by_cases hk : k < n
    · have k1 : (k : Int) < (n : Int) := by omega
      obtain ⟨⟨p1, p2⟩, hp⟩ : ∃ p, l[k]? = some p := ⟨_, List.getElem?_eq_getElem (by rw [HN.out]; exact hk)⟩
      obtain ⟨b, o, rfl, _, hc⟩ := (HU.out.below BB.out).cells HN.out (by omega)
      obtain ⟨g0, g1⟩ := pr_cells hc hp
      simp only at g0 g1
      have hz1 := HZ.out k _ hp HC.out
      simp only at hz1
      have hch := prErr_take k _ hp HC.out
      have hbt := prBlks_take hp
      have hpl := prB_len (p1, p2)
      have hok := okN_prB (p1, p2)
      have hsz := prB_sz (p1, p2)
      have hoq : posN (prBlks (l.take k)) := posN_of (prBlks_may _)
      obtain ⟨er, her⟩ : ∃ z, prE (p1, p2) = z := ⟨_, rfl⟩
      obtain ⟨Y, hY⟩ : ∃ z, prB (p1, p2) = z := ⟨_, rfl⟩
      obtain ⟨Q, hQ⟩ : ∃ z, prBlks (l.take k) = z := ⟨_, rfl⟩
      rw [her] at hch
      rw [hY] at hbt hpl hok hsz
      rw [hQ] at hbt HT hoq
      have hal : Below wr.heap.size wr (wr.alloc (.cells #[.string p1, .string p2] 25)) := (Below.refl _ _).alloc (Nat.le_refl _) _
      have c5 := CP.out p1 p2 (wr.alloc (.cells #[.string p1, .string p2] 25)) (HOK.out.below (BB.out.trans (hal.mono BB.out.size))) hz1.1 hz1.2
      rw [her, hY] at c5
      have CC := Lib.hid c5; have HCH := Lib.hid hch; have HBT := Lib.hid hbt; have HAL := Lib.hid hal; have OK := Lib.hid hok; have SZ := Lib.hid hsz; have OQ := Lib.hid hoq
      clear hc hp hch c5 her hY hQ hbt hal hok hsz hoq
      go_wp2_with fail
      refine CC.out.mono ?_
      rintro e w5 ⟨v, rfl, r5, b5⟩
      obtain ⟨A5, c5, e5⟩ := r5.slice
      subst e5
      have ba := HAL.out.trans (b5.mono HAL.out.size)
      have T5 := Lib.hid (HT.out.kept ba)
      have B5 : Hid (Below base w w5) := Lib.hid (BW.out.trans (ba.mono hbw))
      have hb5 : base ≤ w5.heap.size := Nat.le_trans hbw ba.size
      clear ba b5
      by_cases h0 : er = 0
      · subst h0
        obtain ⟨m, hm⟩ : ∃ m, Y.length = m := ⟨_, rfl⟩
        rw [hm] at hpl r5 ⊢
        have HM := Lib.hid hm; have R5 := Lib.hid r5
        clear hm r5
        go_wp2
        go_loopw [34] (fun s34 wr' => ∃ j : Nat, j ≤ m ∧ s34 = .int .i64 j ∧ Hid (Tal wr' base (base + 1) base (Q ++ Y.take j)) ∧ Hid (BRuns wr' (.slice A5 m c5) Y) ∧ Hid (Below base w wr')) (fun s34 _ => m - (RowKit.intOf s34).toNat)
        case atStart => exact ⟨0, Nat.zero_le _, rfl, Lib.hid (by simpa using T5.out), R5, B5⟩
        case round =>
          obtain ⟨j, hjm, rfl, HTj, RJ, BJ⟩ := hrel
          clear T5 B5 R5 HT BW hbw BB
          have hbj : base ≤ wr.heap.size := by rw [← HBS.out]; exact BJ.out.size
          by_cases hj : j < m
          · have j1 : (j : Int) < (m : Int) := by omega
            obtain ⟨⟨q1, q2, q3⟩, hq⟩ : ∃ p, Y[j]? = some p := ⟨_, List.getElem?_eq_getElem (by rw [HM.out]; exact hj)⟩
            obtain ⟨b', o', rfl, _, hc⟩ := RJ.out.cells HM.out (by omega)
            obtain ⟨f0, f1, f2⟩ := blk_cells hc hq
            simp only at f0 f1 f2
            have hN1 := OK.out _ (List.mem_of_getElem? hq)
            have hS1 := SZ.out _ (List.mem_of_getElem? hq)
            simp only at hN1 hS1
            have hal : Below wr.heap.size wr (wr.alloc (.cells #[.string q1, .string q2, .int .i64 q3] 34)) := (Below.refl _ _).alloc (Nat.le_refl _) _
            have BA : Hid (Below base w (wr.alloc (.cells #[.string q1, .string q2, .int .i64 q3] 34))) := Lib.hid (BJ.out.trans (hal.mono hbj))
            have TA := HTj.out.kept hal
            have RA := RJ.out.below hal
            have cad := add_any (base + 1) base base (Q ++ Y.take j) (q1, q2, q3) (wr.alloc (.cells #[.string q1, .string q2, .int .i64 q3] 34)) TA (by simp; omega)
              (fun z hz => by
                rcases List.mem_append.1 hz with h | h
                · exact OQ.out z h
                · exact (OK.out z (List.mem_of_mem_take h)).1) hN1.1 hN1.2 (by simp only; omega) (by simp only; omega)
            rw [List.append_assoc, ← take_snoc hq] at cad
            simp only at cad
            have CAD := Lib.hid cad; have TA' := Lib.hid TA; have RA' := Lib.hid RA
            clear hc hq hal cad TA RA
            go_wp2_with fail
            refine CAD.out.mono ?_
            rintro e w6 ⟨rfl, t6, b6, n6⟩
            have T6 := Lib.hid t6
            have R6 := Lib.hid (TA'.out.runs n6 RA'.out)
            have B6 : Hid (Below base w w6) := Lib.hid (BA.out.trans b6)
            clear t6 b6 n6
            go_wp2
            exact ⟨⟨j + 1, by omega, by go_num, T6, R6, B6⟩, by simp [RowKit.intOf]; omega⟩
          · obtain rfl : j = m := by omega
            have ht := HTj.out
            rw [List.take_of_length_le (by rw [HM.out]; exact Nat.le_refl _), ← HBT.out] at ht
            have TF := Lib.hid ht
            clear ht
            go_wp2
            exact ⟨⟨k + 1, by omega, by go_num, Lib.hid (HCH.out.1 (by first | rfl | trivial)), TF, BJ⟩, by simp [RowKit.intOf]; omega⟩
      · have h0' : (er == 0) = false := by simpa using h0
        have hr : Hid (R = er ∧ X = []) := Lib.hid (by
          have e1 := HCH.out.2 h0
          exact ⟨by rw [HE.out, e1, if_neg h0], by rw [HS.out, e1, if_neg h0]⟩)
        have BE : Hid (Below w.heap.size w w5) := Lib.hid (by rw [HBS.out]; exact B5.out)
        clear r5
        go_wp2
        go_ret2
        exact ⟨_, by rw [hr.out.1]; rfl, by rw [hr.out.2]; exact GRuns.nil_ _ _ _, BE.out⟩
    · obtain rfl : k = n := by omega
      have h0 := HC.out
      have ht := HT.out
      rw [List.take_of_length_le (by rw [HN.out]; exact Nat.le_refl _)] at h0 ht
      have hr : Hid (R = (if manyB (prBlks l) then 6 else 0) ∧ X = (if manyB (prBlks l) then [] else gat (prBlks l))) := Lib.hid ⟨by rw [HE.out, if_pos h0], by rw [HS.out, if_pos h0]⟩
      have ct := tally_table_any (base + 1) base base (prBlks l) wr ht (posN_of (prBlks_may l)) (fun b hb => by have := prBlks_sz l b hb; omega)
      rw [← hr.out.1, ← hr.out.2] at ct
      have CT := Lib.hid ct
      clear ct h0 ht HC HT
      go_wp2_with fail
      refine CT.out.mono ?_
      rintro e w5 ⟨v, rfl, r5, b5⟩
      obtain ⟨A5, c5, e5⟩ := r5.slice
      subst e5
      have R5 := Lib.hid r5
      have B5 : Hid (Below w.heap.size w w5) := Lib.hid (BB.out.trans (b5.mono BB.out.size))
      clear r5 b5
      go_wp2
      go_ret2
      exact ⟨_, rfl, R5.out, B5.out⟩
end Go.Proofs.YtnognphjndpgkaaGreatDoor

/- rule.Learn, errataref07.Learn: the rules of pairs. -/
namespace Go.Proofs.YtnognphjndpgkaaGreatDoor
open Go.RowKit Go.Shelf
set_option linter.unusedSimpArgs false
set_option linter.unusedVariables false

def lnE (l : List Pr) (n : Int) : Int := if parE l = 0 then mkE (parS l) n else parE l
def lnS (l : List Pr) (n : Int) : List Blk := if parE l = 0 then mkS (parS l) n else []
theorem parS_szB (l : List Pr) : szB (parS l) ∧ (parS l).length ≤ 65536 := by
  unfold parS
  split
  · rename_i h
    refine ⟨fun z hz => ?_, ?_⟩
    · rcases gat_keys (prBlks l) [] z hz with ⟨y, hy, e⟩ | ⟨y, hy, _⟩
      · have := prBlks_sz l y hy
        rw [← e.1, ← e.2] at this
        omega
      · simp at hy
    · unfold parE at h
      split at h
      · cases h
      · split at h
        · have := (tabE_facts h).2.1; omega
        · rename_i h0; exact absurd h h0
  · exact ⟨fun z hz => by simp at hz, by simp⟩

set_option maxRecDepth 100000 in
set_option maxHeartbeats 8000000 in
theorem rlearn_any (u : Value) (l : List Pr) (least : Int) (w : World) (hO : Okw w) (hu : PRuns w u l) (hl : l.length ≤ 1000) (hz : prSz l) :
    Calls Tryz.prog 5 #[u, .int .i64 least] w fun e w' => ∃ v, e = .returned (.tuple #[v, .int .i64 (lnE l least)]) ∧ BRuns w' v (lnS l least) ∧ Below w.heap.size w w' := by
  have cp := pairs_any u l w hO hu hl hz
  have cm := fun x w hO hx => rmake_any x (parS l) least w hO hx (by have := (parS_szB l).2; omega) (szL_of (parS_szB l).1)
  have hE : lnE l least = if parE l = 0 then mkE (parS l) least else parE l := rfl
  have hS : lnS l least = if parE l = 0 then mkS (parS l) least else [] := rfl
  obtain ⟨ea, hea⟩ : ∃ z, parE l = z := ⟨_, rfl⟩
  obtain ⟨X, hX⟩ : ∃ z, parS l = z := ⟨_, rfl⟩
  obtain ⟨er, her⟩ : ∃ z, lnE l least = z := ⟨_, rfl⟩
  obtain ⟨Y, hY⟩ : ∃ z, lnS l least = z := ⟨_, rfl⟩
  rw [her, hea, hX] at hE
  rw [hY, hea, hX] at hS
  rw [hea, hX] at cp
  simp only [hX] at cm
  rw [her, hY]
  obtain ⟨A, c, e⟩ := hu.slice
  subst e
  have CP := Lib.hid cp; have CM := Lib.hid cm; have HE := Lib.hid hE; have HS := Lib.hid hS; have HOK := Lib.hid hO
  clear cp cm hE hS hea hX her hY hu hz hO
  obtain ⟨n, hn⟩ : ∃ n, l.length = n := ⟨_, rfl⟩
  rw [hn] at CP ⊢
  obtain ⟨nx, hnx⟩ : ∃ n, X.length = n := ⟨_, rfl⟩
  have HNX := Lib.hid hnx; clear hnx hn
  go_enter Tryz.func5, Tryz.ntmps5
  go_wp2_with fail
  refine CP.out.mono ?_
  rintro e w1 ⟨v1, rfl, r1, b1⟩
  obtain ⟨A1, k1, e1⟩ := r1.slice
  rw [HNX.out] at e1
  subst e1
  have R1 := Lib.hid r1; have K1 : Hid (Okw w1) := Lib.hid (HOK.out.below b1)
  have B1 := Lib.hid b1; clear b1 r1
  by_cases h0 : ea = 0
  · subst h0
    have e1 : Hid (er = mkE X least) := Lib.hid (by rw [HE.out, if_pos (by first | rfl | trivial)])
    have e2 : Hid (Y = mkS X least) := Lib.hid (by rw [HS.out, if_pos (by first | rfl | trivial)])
    go_wp2_with fail
    refine (CM.out _ _ K1.out R1.out).mono ?_
    rintro e w2 ⟨v2, rfl, r2, b2⟩
    have R2 := Lib.hid r2
    have B2 := Lib.hid (B1.out.trans (b2.mono B1.out.size)); clear b2 r2
    go_wp2
    go_ret2
    exact ⟨v2, by rw [e1.out]; rfl, by rw [e2.out]; exact R2.out, B2.out⟩
  · have h0' : (ea == 0) = false := by simpa using h0
    have e1 : Hid (er = ea) := Lib.hid (by rw [HE.out, if_neg h0])
    have e2 : Hid (Y = []) := Lib.hid (by rw [HS.out, if_neg h0])
    go_wp2
    go_ret2
    exact ⟨_, by rw [e1.out]; rfl, by rw [e2.out]; exact GRuns.nil_ _ _ _, B1.out⟩

set_option maxRecDepth 100000 in
set_option maxHeartbeats 8000000 in
theorem refLearn_any (u : Value) (l : List Pr) (least : Int) (w : World) (hu : PRuns w u l) (hl : l.length ≤ 100) (hz : prSz l) :
    Calls Tryz.prog 6 #[u, .int .i64 least] w fun e w' => ∃ v, e = .returned (.tuple #[v, .int .i64 (lnE l least)]) ∧ BRuns w' v (lnS l least) ∧ Below w.heap.size w w' := by
  have cp := refPairs_any u l w hu hl hz
  have cm := fun x w hx => refMake_any x (parS l) least w hx (by have := (parS_szB l).2; omega) (parS_szB l).1
  have hE : lnE l least = if parE l = 0 then mkE (parS l) least else parE l := rfl
  have hS : lnS l least = if parE l = 0 then mkS (parS l) least else [] := rfl
  obtain ⟨ea, hea⟩ : ∃ z, parE l = z := ⟨_, rfl⟩
  obtain ⟨X, hX⟩ : ∃ z, parS l = z := ⟨_, rfl⟩
  obtain ⟨er, her⟩ : ∃ z, lnE l least = z := ⟨_, rfl⟩
  obtain ⟨Y, hY⟩ : ∃ z, lnS l least = z := ⟨_, rfl⟩
  rw [her, hea, hX] at hE
  rw [hY, hea, hX] at hS
  rw [hea, hX] at cp
  simp only [hX] at cm
  rw [her, hY]
  obtain ⟨A, c, e⟩ := hu.slice
  subst e
  have CP := Lib.hid cp; have CM := Lib.hid cm; have HE := Lib.hid hE; have HS := Lib.hid hS
  clear cp cm hE hS hea hX her hY hu hz
  obtain ⟨n, hn⟩ : ∃ n, l.length = n := ⟨_, rfl⟩
  rw [hn] at CP ⊢
  obtain ⟨nx, hnx⟩ : ∃ n, X.length = n := ⟨_, rfl⟩
  have HNX := Lib.hid hnx; clear hnx hn
  go_enter Tryz.func6, Tryz.ntmps6
  go_wp2_with fail
  refine CP.out.mono ?_
  rintro e w1 ⟨v1, rfl, r1, b1⟩
  obtain ⟨A1, k1, e1⟩ := r1.slice
  rw [HNX.out] at e1
  subst e1
  have R1 := Lib.hid r1
  have B1 := Lib.hid b1; clear b1 r1
  by_cases h0 : ea = 0
  · subst h0
    have e1 : Hid (er = mkE X least) := Lib.hid (by rw [HE.out, if_pos (by first | rfl | trivial)])
    have e2 : Hid (Y = mkS X least) := Lib.hid (by rw [HS.out, if_pos (by first | rfl | trivial)])
    go_wp2_with fail
    refine (CM.out _ _ R1.out).mono ?_
    rintro e w2 ⟨v2, rfl, r2, b2⟩
    have R2 := Lib.hid r2
    have B2 := Lib.hid (B1.out.trans (b2.mono B1.out.size)); clear b2 r2
    go_wp2
    go_ret2
    exact ⟨v2, by rw [e1.out]; rfl, by rw [e2.out]; exact R2.out, B2.out⟩
  · have h0' : (ea == 0) = false := by simpa using h0
    have e1 : Hid (er = ea) := Lib.hid (by rw [HE.out, if_neg h0])
    have e2 : Hid (Y = []) := Lib.hid (by rw [HS.out, if_neg h0])
    go_wp2
    go_ret2
    exact ⟨_, by rw [e1.out]; rfl, by rw [e2.out]; exact GRuns.nil_ _ _ _, B1.out⟩
end Go.Proofs.YtnognphjndpgkaaGreatDoor

/- great, alive of layer 6: which blocks are looked at; the document's example. -/
namespace Go.Proofs.YtnognphjndpgkaaGreatDoor
open Go.RowKit Go.Shelf
set_option linter.unusedSimpArgs false
set_option linter.unusedVariables false

theorem ex6 : tabE [(⟨#[114, 110]⟩, ⟨#[109]⟩, 1), (⟨#[108]⟩, ⟨#[105]⟩, 1), (⟨#[114, 110]⟩, ⟨#[109]⟩, 1)] = 0 ∧ tabS [(⟨#[114, 110]⟩, ⟨#[109]⟩, 1), (⟨#[108]⟩, ⟨#[105]⟩, 1), (⟨#[114, 110]⟩, ⟨#[109]⟩, 1)] = [(⟨#[108]⟩, ⟨#[105]⟩, 1), (⟨#[114, 110]⟩, ⟨#[109]⟩, 2)] := by
  decide +kernel
end Go.Proofs.YtnognphjndpgkaaGreatDoor

/- CountPairs, walked over what count's functions and the document's answer. -/
namespace Go.Proofs.YtnognphjndpgkaaGreatDoor
open Go.RowKit Go.Shelf
set_option linter.unusedSimpArgs false
set_option linter.unusedVariables false

def smP (l : List Pr) : Nat := (l.map (fun b => b.1.size + b.2.size)).sum
theorem smP_take {l : List Pr} (k : Nat) (x : Pr) (h : l[k]? = some x) : smP (l.take (k + 1)) = smP (l.take k) + (x.1.size + x.2.size) := by
  rw [List.take_add_one, h]; simp [smP]
theorem smP_mem (l : List Pr) : ∀ b ∈ l, b.1.size + b.2.size ≤ smP l := by
  induction l with
  | nil => simp
  | cons a l ih =>
    intro b hb
    have e : smP (a :: l) = a.1.size + a.2.size + smP l := by simp [smP]
    rw [e]
    rcases List.mem_cons.1 hb with rfl | hb
    · omega
    · have := ih b hb; omega
/-- Texts as long as a text may be. -/
def szP (l : List Pr) : Prop := ∀ b ∈ l, b.1.size ≤ 140737488355328 ∧ b.2.size ≤ 140737488355328
theorem smP_le {l : List Pr} {c : Nat} (h : ∀ b ∈ l, b.1.size ≤ c ∧ b.2.size ≤ c) (k : Nat) : smP (l.take k) ≤ k * (2 * c) := by
  induction k with
  | zero => simp [smP]
  | succ k ih =>
    cases hx : l[k]? with
    | none =>
      rw [List.take_add_one, hx]
      simp only [Option.toList_none, List.append_nil]
      rw [Nat.succ_mul]; omega
    | some x =>
      have := h x (List.mem_of_getElem? hx)
      rw [smP_take k x hx, Nat.succ_mul]; omega

end Go.Proofs.YtnognphjndpgkaaGreatDoor

/- RuleLearns, walked over what rule's functions and the document's answer. -/
namespace Go.Proofs.YtnognphjndpgkaaGreatDoor
open Go.RowKit Go.Shelf
set_option linter.unusedSimpArgs false
set_option linter.unusedVariables false

set_option maxRecDepth 100000 in
set_option maxHeartbeats 8000000 in
theorem ruleLearns_walk (u : Value) (l : List Pr) (least : Int) (w : World) (h : Okw w) (hu : PRuns w u l) (hz : szP l) :
    Calls Tryz.prog 3 #[u, .int .i64 least] w (RetTrue w) := by
  have hcm : l.length ≤ maxLen := by
    obtain ⟨_, c, _, h1, h2, _⟩ := hu
    exact Nat.le_trans h1 h2.1
  have c1 := fun (hl : l.length ≤ 60) (hz : prSz l) w hO hu => rlearn_any u l least w hO hu (by omega) hz
  have c2 := fun (hl : l.length ≤ 60) (hz : prSz l) w hu => refLearn_any u l least w hu (by omega) hz
  obtain ⟨er, her⟩ : ∃ z, lnE l least = z := ⟨_, rfl⟩
  obtain ⟨X, hX⟩ : ∃ z, lnS l least = z := ⟨_, rfl⟩
  simp only [her, hX] at c1 c2
  clear her hX
  obtain ⟨A, c, e⟩ := hu.slice
  obtain ⟨n, hn⟩ : ∃ n, l.length = n := ⟨_, rfl⟩
  rw [hn] at e hcm
  subst e
  simp only [hn] at c1 c2
  have HU := Lib.hid hu; have C1 := Lib.hid c1; have C2 := Lib.hid c2; have HN := Lib.hid hn
  clear hu c1 c2
  unfold maxLen at hcm
  by_cases hbig : 60 < n
  · clear hz hn
    go_enter Tryz.func3, Tryz.ntmps3
    go_wp2_with fail
    refine (alive7_any _ h).mono ?_
    rintro e w1 ⟨rfl, b1⟩
    have U1 := Lib.hid (HU.out.below b1)
    have B1 := Lib.hid b1; clear b1
    go_wp2
    go_loopw [5, 16] (fun s4 s15 wr => ∃ (k : Nat) (s : Int), k ≤ n ∧ s15 = .int .i64 k ∧ s4 = .int .i64 s ∧ Hid (Below w1.heap.size w1 wr)) (fun _ s15 _ => n - (RowKit.intOf s15).toNat)
    case atStart => exact ⟨0, 0, Nat.zero_le _, rfl, rfl, Lib.hid (Below.refl _ _)⟩
    case round =>
      obtain ⟨k, s, hkn, rfl, rfl, BW⟩ := hrel
      by_cases hk : k < n
      · have k1 : (k : Int) < (n : Int) := by omega
        obtain ⟨⟨p1, p2⟩, hp⟩ : ∃ p, l[k]? = some p := ⟨_, List.getElem?_eq_getElem (by rw [HN.out]; exact hk)⟩
        obtain ⟨b, o, rfl, _, hc⟩ := (U1.out.below BW.out).cells HN.out (by omega)
        obtain ⟨g0, g1⟩ := pr_cells hc hp
        simp only at g0 g1
        have hal : Hid (Below w1.heap.size w1 (wr.alloc (.cells #[.string p1, .string p2] 25))) := Lib.hid (BW.out.alloc BW.out.size _)
        clear hc hp
        go_wp2
        exact ⟨⟨k + 1, _, by omega, by go_num, rfl, hal⟩, by simp [RowKit.intOf]; omega⟩
      · obtain rfl : k = n := by omega
        have h5 : (60 : Int) < (k : Int) := by omega
        have BE := Lib.hid (B1.out.trans (BW.out.mono B1.out.size))
        go_wp2
        go_ret
        exact ⟨rfl, BE.out⟩
  · have hb' := smP_le (c := 140737488355328) hz
    obtain ⟨sm, hsm⟩ : ∃ f, f = fun k => smP (l.take k) := ⟨_, rfl⟩
    have hst : ∀ k x, l[k]? = some x → sm (k + 1) = sm k + (x.1.size + x.2.size) := fun k x hx => by rw [hsm]; exact smP_take k x hx
    have hbd : ∀ k, sm k ≤ k * (2 * 140737488355328) := fun k => by rw [hsm]; exact hb' k
    have h0 : sm 0 = 0 := by rw [hsm]; simp [smP]
    have hfin : ∀ b ∈ l, b.1.size + b.2.size ≤ sm n := fun b hb => by
      rw [hsm]
      simp only
      rw [List.take_of_length_le (by rw [hn]; exact Nat.le_refl _)]
      exact smP_mem l b hb
    have ST := Lib.hid hst; have BD := Lib.hid hbd; have HF := Lib.hid hfin; have HZ := Lib.hid hz
    clear hst hbd hfin hsm hb' hz hn
    go_enter Tryz.func3, Tryz.ntmps3
    go_wp2_with fail
    refine (alive7_any _ h).mono ?_
    rintro e w1 ⟨rfl, b1⟩
    have U1 := Lib.hid (HU.out.below b1); have K1 : Hid (Okw w1) := Lib.hid (h.below b1)
    have B1 := Lib.hid b1; clear b1
    go_wp2
    go_loopw [5, 16] (fun s4 s15 wr => ∃ k : Nat, k ≤ n ∧ s15 = .int .i64 k ∧ s4 = .int .i64 (sm k : Nat) ∧ Hid (Below w1.heap.size w1 wr)) (fun _ s15 _ => n - (RowKit.intOf s15).toNat)
    case atStart => exact ⟨0, Nat.zero_le _, rfl, by rw [h0]; rfl, Lib.hid (Below.refl _ _)⟩
    case round =>
      obtain ⟨k, hkn, rfl, rfl, BW⟩ := hrel
      have bk := BD.out k
      obtain ⟨s, es⟩ : ∃ s, sm k = s := ⟨_, rfl⟩
      rw [es] at bk ⊢
      have HES := Lib.hid es; clear es
      by_cases hk : k < n
      · have k1 : (k : Int) < (n : Int) := by omega
        obtain ⟨⟨p1, p2⟩, hp⟩ : ∃ p, l[k]? = some p := ⟨_, List.getElem?_eq_getElem (by rw [HN.out]; exact hk)⟩
        obtain ⟨b, o, rfl, _, hc⟩ := (U1.out.below BW.out).cells HN.out (by omega)
        obtain ⟨g0, g1⟩ := pr_cells hc hp
        simp only at g0 g1
        have hs1 := ST.out k _ hp
        have hz1 := HZ.out _ (List.mem_of_getElem? hp)
        simp only at hs1 hz1
        rw [HES.out] at hs1
        have HS1 := Lib.hid hs1
        have w1' : IntKind.i64.wrap ((p1.size : Int) + (p2.size : Int)) = (p1.size : Int) + (p2.size : Int) := by rw [IntKind.wrap_i64]; omega
        have w2' : IntKind.i64.wrap ((s : Int) + ((p1.size : Int) + (p2.size : Int))) = (s : Int) + ((p1.size : Int) + (p2.size : Int)) := by rw [IntKind.wrap_i64]; omega
        have hal : Hid (Below w1.heap.size w1 (wr.alloc (.cells #[.string p1, .string p2] 25))) := Lib.hid (BW.out.alloc BW.out.size _)
        clear hc hp hs1
        go_wp2
        exact ⟨⟨k + 1, by omega, by go_num, by rw [HS1.out]; simp, hal⟩, by simp [RowKit.intOf]; omega⟩
      · obtain rfl : k = n := by omega
        have h5 : ¬ (60 : Int) < (k : Int) := by omega
        have BE := Lib.hid (B1.out.trans (BW.out.mono B1.out.size))
        by_cases h8 : 2000 < s
        · have h8' : (2000 : Int) < (s : Int) := by omega
          go_wp2
          go_ret
          exact ⟨rfl, BE.out⟩
        · have h8' : ¬ (2000 : Int) < (s : Int) := by omega
          have HPZ : Hid (prSz l) := Lib.hid (fun i p hp _ => by have := HF.out p (List.mem_of_getElem? hp); have := HES.out; omega)
          have hl100 : k ≤ 60 := by omega
          have U2 := Lib.hid (U1.out.below BW.out); have K2 : Hid (Okw wr) := Lib.hid (K1.out.below BW.out)
          have C1' := Lib.hid (C1.out hl100 HPZ.out); have C2' := Lib.hid (C2.out hl100 HPZ.out)
          clear C1 C2 HPZ hl100
          go_wp2_with fail
          refine (C1'.out _ K2.out U2.out).mono ?_
          rintro e w3 ⟨va, rfl, r3, b3⟩
          obtain ⟨Aa, ka, rfl⟩ := r3.slice
          have R3 := Lib.hid r3
          have U3 := Lib.hid (U2.out.below b3)
          have B3 := Lib.hid (BE.out.trans (b3.mono BE.out.size)); clear b3 r3
          go_wp2_with fail
          refine (C2'.out _ U3.out).mono ?_
          rintro e w4 ⟨vb, rfl, r4, b4⟩
          obtain ⟨Ab, kb, rfl⟩ := r4.slice
          have cs := refSame7_any _ _ X X w4 (R3.out.below b4) r4
          rw [decide_eq_true rfl] at cs
          have CS := Lib.hid cs
          have B4 := Lib.hid (B3.out.trans (b4.mono B3.out.size)); clear b4 r4 cs
          go_wp2_with fail
          refine CS.out.mono ?_
          rintro e w5 ⟨rfl, k5, rfl⟩
          go_wp2
          go_ret
          exact ⟨ret_bool (by simp), below_draws B4.out _⟩
end Go.Proofs.YtnognphjndpgkaaGreatDoor

/- What every law's proof needs around its walk: the arguments read as they did wherever old memory is kept; a world for the witness; what the listed tables give. -/
namespace Go.Proofs.YtnognphjndpgkaaGreatDoor
open Go.ChangeShapes Go.WideShapes Go.ChangeAt Go.RowKit Go.Shelf

theorem own : ownKnob Tryz.prog.godebug = none := by kernel_rfl
theorem laidOut : laidOutB Tryz.prog = true := by kernel_rfl

theorem trodAll_below {H : Type} {enc : TypeId × Value → H} {P : Program} (hl : laidOutB P = true) {W W' : World} (hb : Below W.heap.size W W') :
    ∀ (ts : List TypeId) (vs : List Value) (ds : List (DataW H)) (ps : List MemPlace), (∀ t ∈ ts, P.readableRec t = true ∧ t < P.types.size) → (∀ x ∈ ps, x.block < W.heap.size) →
      DataW.TrodAll enc P W 0 (fun _ => true) true ts vs ds ps → DataW.TrodAll enc P W' 0 (fun b => decide (b < W.heap.size)) true ts vs ds ps
  | [], vs, ds, ps, _, _, h => by
    obtain ⟨rfl, rfl, rfl⟩ := trodAll_nil h
    exact trodAll_mk0
  | t :: ts, vs, ds, ps, ht, hp, h => by
    obtain ⟨v0, vs0, d0, ds0, p0, q0, rfl, rfl, rfl, h0, r0⟩ := trodAll_cons h
    exact trodAll_cons_mk (Below.trod hl (ht t (by simp)).1 (ht t (by simp)).2 h0 hb (fun x hx => hp x (by simp [hx]))) (trodAll_below hl hb ts vs0 ds0 q0 (fun t' h' => ht t' (by simp [h'])) (fun x hx => hp x (by simp [hx])) r0)

theorem cells32 : Tryz.prog.cellsOf 21 = 1 := by kernel_rfl
set_option maxRecDepth 100000 in
/-- An argument of type []int32 reads as a list of numbers of that kind. -/
theorem runs_of_arg {H : Type} {enc : TypeId × Value → H} {W : World} {base : Nat} {v : Value} {d : DataW H} {p : List MemPlace} (hv : Value.okWide Tryz.prog W .any base 59 v) (h : DataW.Trod enc Tryz.prog W 0 (fun _ => true) true 59 v d p) :
    ∃ a : List Int, Runs W v a ∧ ∀ x ∈ a, -2147483648 ≤ x ∧ x ≤ 2147483647 := by
  obtain ⟨a0, len, cap, rfl⟩ := okWide_slice Tryz.underlying59 hv
  obtain ⟨fuel, hf⟩ := h
  rcases open_ints Tryz.underlying59 Tryz.underlying21 cells32 hf with ⟨hcs, _⟩ | ⟨a, len', cap', zs, hcs, _, hl, hm, hz, _, hcell, hwz⟩
  · have e : Value.slice a0 len cap = .slice none 0 0 := by simpa [Value.cells] using hcs
    rw [e]
    exact ⟨[], Runs.nil_ _, by simp⟩
  · have e : Value.slice a0 len cap = .slice (some a) len' cap' := by simpa [Value.cells] using hcs
    rw [e]
    simp only [if_true] at hz
    have hlen : (zs.take len').length = len' := by rw [List.length_take]; omega
    refine ⟨zs.take len', ⟨some a, cap', by rw [hlen], by omega, ⟨hm, fun h => by cases h⟩, fun h0 => ?_⟩, fun x hx => bounds_i32 (hwz x (List.mem_of_mem_take hx))⟩
    obtain ⟨b, off, rfl, hc⟩ := ints_at hcell (by omega)
    have h00 := hc 0 (by omega)
    refine ⟨b, off, rfl, ?_, fun j hj => ?_⟩
    · rcases Nat.lt_or_ge b W.heap.size with h' | h'
      · exact h'
      · simp [World.cell?, Array.getElem?_eq_none h'] at h00
    · rw [hc j (by omega)]
      simp only [List.getD_eq_getElem?_getD, List.getElem?_take]
      rw [if_pos (by omega)]

/-- A law that answered true and changed nothing old has its row's post. -/
theorem law_post {H : Type} {enc : TypeId × Value → H} {P : Program} {f : Func} {s : ChangeSpec} {W W' : World} {args : Array Value} {ds gs : List (DataW H)} {before : List MemPlace} {tb : TypeId}
    (hl : laidOutB P = true) (hts : ∀ t ∈ f.params.toList, P.readableRec t = true ∧ t < P.types.size) (hW : DataW.Whole enc P f.params.toList s.vars false W args.toList ds gs before) (hb : Below W.heap.size W W')
    (hbool : P.underlying tb = some .bool) (hrt : f.resultTypes = #[tb]) (hs : s.vars = []) (h1 : (s.fn H (ds ++ gs)).results = [.lit (.bool true)]) (h2 : (s.fn H (ds ++ gs)).args = ds) (h3 : (s.fn H (ds ++ gs)).vars = []) :
    s.post enc P f false true false false W args (.bool true) W' := by
  have hW' := hW
  obtain ⟨p, q, hA, hV, hbef, _, _⟩ := hW
  have hlt : ∀ x ∈ p, x.block < W.heap.size := fun x hx => hW'.lt x (by rw [hbef]; simp [hx])
  refine ⟨ds, gs, before, [], p, [], hW', ?_, ?_, ?_, hb.frame _, fun h => by cases h⟩
  · rw [hrt, h1]; exact trodAll_cons_mk (shut_bool hbool _) trodAll_mk0
  · rw [h2]; exact trodAll_below hl hb _ _ _ _ hts hlt hA
  · rw [hs, h3]; rfl

/-- The list of variables that every row of this seat bears. -/
def laidList : List (String × DataW Unit) := [("unicode/utf8.acceptRanges", Rows.laid_unicode_utf8_acceptRanges), ("unicode/utf8.first", Rows.laid_unicode_utf8_first)]
theorem accept_same : (Rows.laid_unicode_utf8_acceptRanges : DataW Unit) = Lib.acceptData := by kernel_rfl
theorem first_same : Rows.laid_unicode_utf8_first = Lib.firstData := by kernel_rfl

theorem okw_of_laid {W : World} (hL : laidMetH Tryz.prog laidList W) : Okw W := by
  have h : laidMet Tryz.prog laidList W := hL
  have ht : Tabs W := utf8Tabs_of_readsT (U8Types.of260 Tryz.lays260) ⟨by kernel_rfl, by kernel_rfl, by kernel_rfl, by kernel_rfl, by kernel_rfl, by kernel_rfl, by kernel_rfl⟩
    (by have := Lib.laidMet.reads h (n := "unicode/utf8.first") (d := Rows.laid_unicode_utf8_first) (by simp [laidList]); rwa [first_same] at this)
    (by have := Lib.laidMet.reads h (n := "unicode/utf8.acceptRanges") (d := Rows.laid_unicode_utf8_acceptRanges) (by simp [laidList]); rwa [accept_same] at this)
  have lt : ∀ {a : Addr} {v : Value}, W.cell? a = some v → a.block < W.heap.size := fun {a v} hc => by
    rcases Nat.lt_or_ge a.block W.heap.size with h' | h'
    · exact h'
    · simp [World.cell?, Array.getElem?_eq_none h'] at hc
  exact ⟨ht, lt (ht.1 0 (by decide)), lt (ht.2 0 (by decide)).1⟩

def putCells (cs : Array Value) : Obj → Obj
  | .cells _ t frozen => .cells cs t frozen
  | o => o
/-- A world for the witness: the settled one, the two tables as their initialisers lay them. -/
noncomputable def laidWorld (os : Os) : World :=
  { World.holding Tryz.prog os ⟨#[], #[], []⟩ with heap := ((World.holding Tryz.prog os ⟨#[], #[], []⟩).heap.modify 0 (putCells (Lib.firstTab.map fun z => Value.int .u8 z).toArray)).modify 1 (putCells ((List.range 16).flatMap fun i => [Value.int .u8 (Lib.accLo i), Value.int .u8 (Lib.accHi i)]).toArray) }
theorem laid_met (os : Os) (args : Array Value) : laidMet Tryz.prog laidList ((laidWorld os).forCall (fun _ _ => 0) ⟨#[], args, []⟩).memory :=
  laidMet_of_run' 8 (by kernel_rfl) (by kernel_rfl)
end Go.Proofs.YtnognphjndpgkaaGreatDoor

/- Arguments opened: a slice of structs, a slice of blocks; how long their texts may be. -/
namespace Go.Proofs.YtnognphjndpgkaaGreatDoor
open Go.ChangeShapes Go.WideShapes Go.ChangeAt Go.RowKit Go.Shelf Go.Deep Go.Joins
set_option linter.unusedSimpArgs false
set_option linter.unusedVariables false

theorem blkFields : ∃ f0 f1 f2 : Field, Tryz.prog.underlying 34 = some (.struct #[f0, f1, f2]) ∧ f0.type = 9 ∧ f0.offset = 0 ∧ f1.type = 9 ∧ f1.offset = 1 ∧ f2.type = 3 ∧ f2.offset = 2 :=
  ⟨_, _, _, Tryz.underlying34, rfl, rfl, rfl, rfl, rfl, rfl⟩
theorem cellsBlk6 : Tryz.prog.cellsOf 34 = 3 := by kernel_rfl
theorem cellsInt6 : Tryz.prog.cellsOf 3 = 1 := by kernel_rfl
theorem cellsStr6 : Tryz.prog.cellsOf 9 = 1 := by kernel_rfl
def blkD {H : Type} (b : Blk) : DataW H := .agg [.lit (.string b.1.data.toList), .lit (.string b.2.1.data.toList), .lit (.int .i64 b.2.2)]
set_option maxRecDepth 100000 in
theorem blk_of_cells {H : Type} {enc : TypeId × Value → H} {W : World} {fuel : Nat} {cs : List Value} {x : DataW H × List MemPlace} (h : DataW.trod enc Tryz.prog W 0 (fun _ => true) true fuel 34 cs = some x) : ∃ p : Blk, cs = blkCell p ∧ x.1 = blkD p := by
  obtain ⟨f0, f1, f2, hu, t0, o0, t1, o1, t2, o2⟩ := blkFields
  obtain ⟨xs, n, _, hx, hlen, hxl, hf⟩ := DataW.trod_struct hu h
  rw [cellsBlk6] at hlen
  have h0 := hf 0 f0 rfl
  have h1 := hf 1 f1 rfl
  have h2 := hf 2 f2 rfl
  rw [t0, o0, cellsStr6] at h0
  rw [t1, o1, cellsStr6] at h1
  rw [t2, o2, cellsInt6] at h2
  have hx3 : xs.length = 3 := hxl
  match cs, hlen, xs, hx3 with
  | [c0, c1, c2], _, [x0, x1, x2], _ =>
    obtain ⟨a0, e0, d0, _⟩ := DataW.trod_string Tryz.underlying9 h0
    obtain ⟨a1, e1, d1, _⟩ := DataW.trod_string Tryz.underlying9 h1
    obtain ⟨a2, e2, d2, _⟩ := DataW.trod_int Tryz.underlying3 h2
    simp at e0 e1 e2 d0 d1 d2
    refine ⟨(a0, a1, a2), by rw [e0, e1, e2]; rfl, ?_⟩
    rw [hx]
    simp [blkD, d0, d1, d2]
/-- A slice of structs, read. -/
theorem gruns_of_trod {H : Type} {enc : TypeId × Value → H} {W : World} {fuel : Nat} {v : Value} {x : DataW H × List MemPlace} {tS tE : TypeId} {α : Type} (z : α) {cell : α → List Value} {dat : α → DataW H} {k : Nat} (hk0 : 0 < k) (hU : Tryz.prog.underlying tS = some (.slice tE)) (hcl : Tryz.prog.cellsOf tE = k) (hln : ∀ p, (cell p).length = k)
    (hone : ∀ {fuel : Nat} {cs : List Value} {x : DataW H × List MemPlace}, DataW.trod enc Tryz.prog W 0 (fun _ => true) true fuel tE cs = some x → ∃ p, cs = cell p ∧ x.1 = dat p)
    (h : DataW.trod enc Tryz.prog W 0 (fun _ => true) true fuel tS [v] = some x) : ∃ l : List α, GRuns cell k W v l ∧ ((x.1 = .nil ∧ l = []) ∨ ∃ sp, x.1 = .slice (l.map dat) sp) := by
  rcases open_slice hU h with ⟨h0, hx⟩ | ⟨a, len, cap, m, n, D, Pl, hcs, _, hl, hm, hmm, hx, hi⟩
  · obtain rfl : v = .slice none 0 0 := by simpa using h0
    exact ⟨[], GRuns.nil_ _ _ _, .inl ⟨by rw [hx], rfl⟩⟩
  · obtain rfl : v = .slice (some a) len cap := by simpa using hcs
    simp only [if_true] at hmm
    subst hmm
    have hex : ∀ i, i < len → ∃ p : α, (∀ j, j < k → W.cell? (a.add (i * k + j)) = (cell p)[j]?) ∧ D i = dat p := by
      intro i hil
      obtain ⟨cs', hc, ht⟩ := hi i (by omega)
      rw [hcl] at hc
      obtain ⟨p, rfl, hd⟩ := hone ht
      obtain ⟨_, _, hat⟩ := World.cells?_some hc
      exact ⟨p, fun j hj => by rw [← Go.Deep.add_add]; exact hat j hj, hd⟩
    obtain ⟨f, hf⟩ : ∃ f : Nat → α, ∀ i, i < len → (∀ j, j < k → W.cell? (a.add (i * k + j)) = (cell (f i))[j]?) ∧ D i = dat (f i) := by
      refine ⟨fun i => if hi : i < len then Classical.choose (hex i hi) else z, fun i hi => ?_⟩
      simp only [hi, dif_pos]
      exact Classical.choose_spec (hex i hi)
    have hll : ((List.range len).map f).length = len := by simp
    refine ⟨(List.range len).map f, ⟨some a, _, by rw [hll], by rw [hll]; exact hl, ⟨hm, fun h => by cases h⟩, fun hp => ?_⟩, .inr ⟨(List.range (m - len)).map fun j => D (len + j), ?_⟩⟩
    · rw [hll] at hp
      obtain ⟨b, off, spot⟩ := a
      have hc0 : 0 < (cell (f 0)).length := by rw [hln]; exact hk0
      have h00 := (hf 0 hp).1 0 hk0
      rw [List.getElem?_eq_getElem hc0] at h00
      have hspot : spot = none := by simpa [Addr.add] using World.cell?_spot h00
      subst hspot
      have hblt : b < W.heap.size := by
        have := World.block_lt_of_cell? W _ h00
        simpa [Addr.add] using this
      refine ⟨b, off, rfl, hblt, fun j x hj i u hu => ?_⟩
      have hjl : j < len := by have := (List.getElem?_eq_some_iff.1 hj).1; rwa [hll] at this
      have hxe : f j = x := by
        rw [List.getElem?_map, List.getElem?_range hjl] at hj
        simpa using hj
      have hik : i < k := by have := (List.getElem?_eq_some_iff.1 hu).1; rwa [hln] at this
      have h1 := (hf j hjl).1 i hik
      rw [hxe, hu, addr_add] at h1
      rw [Nat.add_assoc]
      exact h1
    · rw [hx]
      have e : (List.range len).map D = ((List.range len).map f).map dat := by
        rw [List.map_map]
        exact List.map_congr_left (fun i hi => (hf i (List.mem_range.1 hi)).2)
      rw [e]
set_option maxRecDepth 100000 in
theorem blks_of_arg {H : Type} {enc : TypeId × Value → H} {W : World} {base : Nat} {v : Value} {d : DataW H} {p : List MemPlace} (hv : Value.okWide Tryz.prog W .any base 35 v) (h : DataW.Trod enc Tryz.prog W 0 (fun _ => true) true 35 v d p) :
    ∃ l : List Blk, BRuns W v l ∧ ((d = .nil ∧ l = []) ∨ ∃ sp, d = .slice (l.map blkD) sp) := by
  obtain ⟨a0, len, cap, rfl⟩ := okWide_slice Tryz.underlying35 hv
  obtain ⟨fuel, hf⟩ := h
  exact gruns_of_trod (ByteArray.empty, ByteArray.empty, 0) (by decide) Tryz.underlying35 cellsBlk6 (fun _ => rfl) (fun h => blk_of_cells h) hf
/-- The form's own bound on each text. -/
theorem blks_weights {H : Type} {d : DataW H} {l : List Blk} (hd : (d = .nil ∧ l = []) ∨ ∃ sp, d = .slice (l.map blkD) sp) (hw : (DataW.weights Tryz.prog 35 d).all (· ≤ reachBytes) = true) : szM l := by
  have h3 : reachBytes = 140737488351232 := by decide
  rcases hd with ⟨_, rfl⟩ | ⟨sp, rfl⟩
  · exact fun b hb => by simp at hb
  simp only [DataW.weights, Tryz.underlying35, List.all_cons, List.all_append, Bool.and_eq_true] at hw
  have hw2 := hw.2.1
  clear hw
  induction l with
  | nil => exact fun b hb => by simp at hb
  | cons a l ih =>
    simp only [List.map_cons, DataW.weightsAll, List.all_append, Bool.and_eq_true] at hw2
    have h1 := hw2.1
    simp only [blkD, DataW.weights, Tryz.underlying34, List.map_cons, List.map_nil, DataW.weightsEach, List.all_append, List.all_cons, List.all_nil, Bool.and_true, Bool.and_eq_true, decide_eq_true_eq, h3] at h1
    intro b hb
    rcases List.mem_cons.1 hb with rfl | hb
    · rw [Lib.size_eq, Lib.size_eq]; omega
    · exact ih hw2.2 b hb
/-- The second form's bound. -/
theorem blks_bulk {H : Type} {d : DataW H} {l : List Blk} (hd : (d = .nil ∧ l = []) ∨ ∃ sp, d = .slice (l.map blkD) sp) (hw : Rows.uptoBulk d ≤ 1048576) : l.length ≤ 2000000 ∧ szL l := by
  rcases hd with ⟨_, rfl⟩ | ⟨sp, rfl⟩
  · exact ⟨by simp, fun b hb => by simp at hb⟩
  simp only [Rows.uptoBulk] at hw
  have key : ∀ l : List Blk, l.length ≤ Rows.uptoBulkAll (l.map (blkD (H := H))) ∧ ∀ b ∈ l, b.1.size ≤ Rows.uptoBulkAll (l.map (blkD (H := H))) ∧ b.2.1.size ≤ Rows.uptoBulkAll (l.map (blkD (H := H))) := by
    intro l
    induction l with
    | nil => exact ⟨by simp, fun b hb => by simp at hb⟩
    | cons a l ih =>
      have e : Rows.uptoBulkAll ((a :: l).map (blkD (H := H))) = a.1.data.toList.length + 1 + (a.2.1.data.toList.length + 1 + (1 + 0)) + 1 + Rows.uptoBulkAll (l.map (blkD (H := H))) := rfl
      rw [e, List.length_cons]
      refine ⟨by have := ih.1; omega, fun b hb => ?_⟩
      rcases List.mem_cons.1 hb with rfl | hb
      · rw [Lib.size_eq, Lib.size_eq]; omega
      · have := ih.2 b hb; omega
  obtain ⟨k1, k2⟩ := key l
  exact ⟨by omega, fun b hb => by have := k2 b hb; omega⟩
end Go.Proofs.YtnognphjndpgkaaGreatDoor

