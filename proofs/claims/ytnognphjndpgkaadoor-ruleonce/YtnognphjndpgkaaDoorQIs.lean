/- rule.Is, Find: whether rules are normal; what a rule costs. -/
import Derived.Test.YtnognphjndpgkaaDoorQEach
import Derived.Test.YtnognphjndpgkaaDoorQBin
import Derived.Test.YtnognphjndpgkaaDoorDFind
import Derived.Test.YtnognphjndpgkaaDoorPk10
namespace Go.Proofs.YtnognphjndpgkaaDoor
open Go.RowKit Go.Shelf Go.Lib
open Go.Sort (grow)
set_option linter.unusedSimpArgs false
set_option linter.unusedVariables false

theorem rless_any (a b c d : ByteArray) (N M : Int) (w : World) :
    Calls Tryd.prog 14 #[.agg #[.string a, .string b, .int .i64 N], .agg #[.string c, .string d, .int .i64 M]] w fun e w' => e = .returned (.bool (lessB (a, b, N) (c, d, M))) ∧ Below w.heap.size w w' :=
  (rless_lays a b c d N M w).mono fun e w' ⟨h1, q, os, h2⟩ => ⟨h1, by rw [h2]; exact below_grows _ _ _⟩

set_option maxRecDepth 100000 in
set_option maxHeartbeats 8000000 in
theorem ris_any (u : Value) (l : List Blk) (w : World) (hO : Okw w) (hu : BRuns w u l) (hl : l.length ≤ 2000000) (hz : szL l) :
    Calls Tryd.prog 10 #[u] w fun e w' => e = .returned (.int .i64 (risS l)) ∧ Below w.heap.size w w' := by
  have ca := reach_any u l w hO hu hl hz
  obtain ⟨A, c, e⟩ := hu.slice
  subst e
  have HU := Lib.hid hu; clear hu
  obtain ⟨n, hn⟩ : ∃ n, l.length = n := ⟨_, rfl⟩
  have hT : risS l = if rall l = 0 then (if ordB l then (if 4096 < n then 6 else 0) else 7) else rall l := by rw [risS, hn]
  obtain ⟨res, hres⟩ : ∃ r, risS l = r := ⟨_, rfl⟩
  rw [hres] at hT ⊢
  have HT := Lib.hid hT; clear hT hres
  rw [hn] at hl HU ca ⊢
  have HN := Lib.hid hn; clear hn hz
  have CL := Lib.hid rless_any
  obtain ⟨ra, hra⟩ : ∃ z, rall l = z := ⟨_, rfl⟩
  rw [hra] at ca
  have HRA := Lib.hid hra; have CA := Lib.hid ca
  clear hra ca
  have hmix : Tryd.prog.follows .mixedOrders = true := by kernel_rfl
  go_enter Tryd.func10, Tryd.ntmps10
  go_wp2_with fail
  refine CA.out.mono ?_
  rintro e w1 ⟨rfl, b1⟩
  have BW := Lib.hid b1; clear b1
  by_cases h00 : ra = 0
  · subst h00
    have HC0 : Hid (rall l = 0) := Lib.hid HRA.out
    go_wp2
    go_loopw [4] (fun s4 wr' => ∃ j : Nat, 1 ≤ j ∧ (j ≤ n ∨ j = 1) ∧ s4 = .int .i64 j ∧ Hid (ordB (l.take j) = true) ∧ Hid (Below w.heap.size w wr')) (fun s4 _ => n - (RowKit.intOf s4).toNat)
    case atStart => exact ⟨1, Nat.le_refl _, .inr rfl, rfl, Lib.hid (ordB_one l), BW⟩
    case round =>
      obtain ⟨j, hj1, hjk, rfl, HO, BW2⟩ := hrel
      by_cases hj : j < n
      · have j1 : (j : Int) < (n : Int) := by omega
        obtain ⟨i, hi⟩ : ∃ i : Nat, (j : Int) - 1 = (i : Int) := ⟨j - 1, by omega⟩
        have ei : j = i + 1 := by omega
        have EI := Lib.hid ei
        obtain ⟨⟨y1, y2, y3⟩, hy⟩ : ∃ p, l[i]? = some p := ⟨_, List.getElem?_eq_getElem (by rw [HN.out]; omega)⟩
        obtain ⟨⟨x1, x2, x3⟩, hx⟩ : ∃ p, l[j]? = some p := ⟨_, List.getElem?_eq_getElem (by rw [HN.out]; omega)⟩
        have RW := Lib.hid (HU.out.below BW2.out)
        obtain ⟨b, o, rfl, hblt, hc⟩ := RW.out.cells HN.out (by omega)
        obtain ⟨g0, g1, g2⟩ := blk_cells hc hy
        obtain ⟨g3, g4, g5⟩ := blk_cells hc hx
        simp only at g0 g1 g2 g3 g4 g5
        have hor := ordB_take i (y1, y2, y3) (x1, x2, x3) hy (by rw [← ei]; exact hx) (by rw [← ei]; exact HO.out)
        have c5 := fun w => CL.out y1 y2 x1 x2 y3 x3 w
        obtain ⟨le, hle⟩ : ∃ z, lessB (y1, y2, y3) (x1, x2, x3) = z := ⟨_, rfl⟩
        simp only [hle] at c5 hor
        have HOR := Lib.hid hor; have C := Lib.hid c5
        clear hc hy hx hor c5 hle ei HO
        have i0 : (0 : Int) < (j : Int) := by omega
        have i1 : (i : Int) < (n : Int) := by omega
        have hwr : IntKind.i64.wrap ((j : Int) - 1) = (i : Int) := by rw [IntKind.wrap_i64]; omega
        have hwi : IntKind.i64.wrap (i : Int) = (i : Int) := by rw [IntKind.wrap_i64]; omega
        have i2 : (0 : Int) ≤ (i : Int) := by omega
        have KD : Hid (KRow w b (o + i * 3) (o + j * 3) (y1, y2, y3) (x1, x2, x3) wr.drew) := Lib.hid ⟨g0, g1, g2, g3, g4, g5, hblt, BW2.out.drew⟩
        go_wp2
        go_region_held3 (fun w' => w'.cell? ⟨b, o + i * 3, none⟩ = some (.string y1) ∧ w'.cell? ⟨b, o + i * 3 + 1, none⟩ = some (.string y2) ∧ w'.cell? ⟨b, o + i * 3 + 2, none⟩ = some (.int .i64 y3) ∧ w'.cell? ⟨b, o + j * 3, none⟩ = some (.string x1) ∧ w'.cell? ⟨b, o + j * 3 + 1, none⟩ = some (.string x2) ∧ w'.cell? ⟨b, o + j * 3 + 2, none⟩ = some (.int .i64 x3) ∧ Hid (KRow w b (o + i * 3) (o + j * 3) (y1, y2, y3) (x1, x2, x3) w'))
          (first | exact ⟨g0, g1, g2, g3, g4, g5, KD⟩ | exact ⟨HKn.out.a0, HKn.out.a1, HKn.out.a2, HKn.out.b0, HKn.out.b1, HKn.out.b2, HKn⟩ | go_keep)
          (first
            | (go_at_call 14; refine (C.out _).mono ?_; rintro e w4 ⟨rfl, hb4⟩; have HKn := Lib.hid ((by assumption : Hid (KRow w b (o + i * 3) (o + j * 3) (y1, y2, y3) (x1, x2, x3) _)).out.step hb4); clear hb4))
        rename_i hHeld
        clear hHeld
        have B4 : Hid (Below w.heap.size w w4) := Lib.hid HKn.out.bel
        cases le
        · have hr : Hid (res = 7) := Lib.hid (by rw [HT.out, if_pos HC0.out, if_neg (by rw [HOR.out.2 rfl]; simp)])
          go_wp2
          go_ret
          exact ⟨by rw [hr.out]; rfl, B4.out⟩
        · go_wp2
          exact ⟨⟨j + 1, by omega, .inl (by omega), by go_num, Lib.hid (by have := HOR.out.1 rfl; rwa [← EI.out] at this), B4⟩, by simp [RowKit.intOf]; omega⟩
      · have j1 : ¬ (j : Int) < (n : Int) := by omega
        have HO0 : Hid (ordB l = true) := Lib.hid (by have := HO.out; rwa [List.take_of_length_le (by rw [HN.out]; omega)] at this)
        clear HO BW
        by_cases hbig : 4096 < n
        · have hb1 : (4096 : Int) < (n : Int) := by omega
          have hr : Hid (res = 6) := Lib.hid (by rw [HT.out, if_pos HC0.out, if_pos HO0.out, if_pos hbig])
          go_wp2
          go_ret
          exact ⟨by rw [hr.out]; rfl, BW2.out⟩
        · have hb1 : ¬ (4096 : Int) < (n : Int) := by omega
          have hr : Hid (res = 0) := Lib.hid (by rw [HT.out, if_pos HC0.out, if_pos HO0.out, if_neg hbig])
          go_wp2
          go_ret
          exact ⟨by rw [hr.out]; rfl, BW2.out⟩
  · have h00' : (ra == 0) = false := by simpa using h00
    have hr : Hid (res = ra) := Lib.hid (by rw [HT.out, HRA.out, if_neg h00])
    go_wp2
    go_ret
    exact ⟨by rw [hr.out]; rfl, BW.out⟩

set_option maxRecDepth 100000 in
set_option maxHeartbeats 8000000 in
theorem rfind_any (u : Value) (l : List Blk) (p q : ByteArray) (w : World) (hO : Okw w) (hu : BRuns w u l) (hl : l.length ≤ 2000000) (hz : szL l) :
    Calls Tryd.prog 18 #[u, .string p, .string q] w fun e w' => e = .returned (.tuple #[.int .i64 (rfS l (p, q, 0)), .int .i64 (rfE l (p, q, 0))]) ∧ Below w.heap.size w w' := by
  have ce := ris_any u l w hO hu hl hz
  obtain ⟨A, c, e⟩ := hu.slice
  subst e
  have hF : rfS l (p, q, 0) = if risS l = 0 then (if lst l (p, q, 0) = 256 then 0 else lst l (p, q, 0)) else 0 := rfl
  have hE : rfE l (p, q, 0) = if risS l = 0 then (if lst l (p, q, 0) = 256 then 10 else 0) else risS l := rfl
  obtain ⟨res, hres⟩ : ∃ r, rfS l (p, q, 0) = r := ⟨_, rfl⟩
  obtain ⟨rer, hrer⟩ : ∃ r, rfE l (p, q, 0) = r := ⟨_, rfl⟩
  obtain ⟨ea, hea⟩ : ∃ r, risS l = r := ⟨_, rfl⟩
  have HK : Hid (ea = 0 → Srt l ∧ costB l) := Lib.hid (fun h => ⟨(risS_facts (by rw [hea]; exact h)).2.1, costB_of (risS_facts (by rw [hea]; exact h)).1⟩)
  rw [hres, hea] at hF
  rw [hrer, hea] at hE
  rw [hres, hrer]
  rw [hea] at ce
  have HF := Lib.hid hF; have HE := Lib.hid hE
  obtain ⟨n, hn⟩ : ∃ n, l.length = n := ⟨_, rfl⟩
  rw [hn] at ce hl hu ⊢
  have CE := Lib.hid ce; have HN := Lib.hid hn; have HU := Lib.hid hu
  clear hres hrer hea hF hE ce hn hu hO hz
  go_enter Tryd.func18, Tryd.ntmps18
  go_wp2_with fail
  refine CE.out.mono ?_
  rintro e w1 ⟨rfl, b1⟩
  have U1 := Lib.hid (HU.out.below b1)
  have B1 := Lib.hid b1
  clear b1
  by_cases h0 : ea = 0
  · subst h0
    obtain ⟨hs, hcb⟩ := HK.out (by first | rfl | trivial)
    have hr : Hid (res = if lst l (p, q, 0) = 256 then 0 else lst l (p, q, 0)) := Lib.hid (by rw [HF.out, if_pos (by first | rfl | trivial)])
    have hr2 : Hid (rer = if lst l (p, q, 0) = 256 then 10 else 0) := Lib.hid (by rw [HE.out, if_pos (by first | rfl | trivial)])
    clear HF HE HK
    obtain ⟨m, hm1, hm2, hm3⟩ := srt_place hs (p, q, 0)
    rw [HN.out] at hm1
    have cs := fun w hu => bsearch_any A n c l p q 0 w HN.out hu hl m hm1 hm2 hm3
    obtain ⟨hf1, hf2⟩ := rfind_at hs hcb (p, q, 0) hm2 hm3
    have hst : standsAt l m (p, q, 0) = match l[m]? with | some y => decide (sameS y (p, q, 0)) | none => false := rfl
    obtain ⟨sb, hsb⟩ : ∃ z, standsAt l m (p, q, 0) = z := ⟨_, rfl⟩
    simp only [hsb] at cs
    rw [hsb] at hst
    have CS := Lib.hid cs; have HST := Lib.hid hst; have HF1 := Lib.hid hf1; have HF2 := Lib.hid hf2
    clear cs hst hsb hf1 hf2 hs hcb hm2 hm3
    go_wp2_with fail
    refine (CS.out _ U1.out).mono ?_
    rintro e w3 ⟨rfl, b3⟩
    have U3 := Lib.hid (U1.out.below b3)
    have B3 : Hid (Below w.heap.size w w3) := Lib.hid (B1.out.trans (b3.mono B1.out.size))
    clear b3
    cases sb
    · have hno : Hid (lst l (p, q, 0) = 256) := Lib.hid (by
        cases hm : l[m]? with
        | none => exact HF1.out hm
        | some y =>
          have := HST.out
          rw [hm] at this
          exact (HF2.out y hm).2 (of_decide_eq_false this.symm))
      have e1 : Hid (res = 0) := Lib.hid (by rw [hr.out, if_pos hno.out])
      have e2 : Hid (rer = 10) := Lib.hid (by rw [hr2.out, if_pos hno.out])
      go_wp2
      go_ret2
      exact ⟨by rw [e1.out, e2.out]; rfl, B3.out⟩
    · obtain ⟨⟨y1, y2, y3⟩, hy, hsame⟩ : ∃ y, l[m]? = some y ∧ sameS y (p, q, 0) := by
        cases hm : l[m]? with
        | none => have := HST.out; rw [hm] at this; cases this
        | some y => have := HST.out; rw [hm] at this; exact ⟨y, rfl, of_decide_eq_true this.symm⟩
      have hmn : m < n := by have := (List.getElem?_eq_some_iff.1 hy).1; rwa [HN.out] at this
      obtain ⟨hl1, hl2⟩ := (HF2.out _ hy).1 hsame
      simp only at hl1 hl2
      have e1 : Hid (res = y3) := Lib.hid (by rw [hr.out, hl1, if_neg hl2])
      have e2 : Hid (rer = 0) := Lib.hid (by rw [hr2.out, hl1, if_neg hl2])
      obtain ⟨b, o, rfl, _, hc⟩ := U3.out.cells HN.out (by omega)
      obtain ⟨g0, g1, g2⟩ := blk_cells hc hy
      simp only at g0 g1 g2
      have i1 : (m : Int) < (n : Int) := by omega
      clear hc hy hsame hl1 hl2
      go_wp2
      go_ret2
      exact ⟨by rw [e1.out, e2.out]; rfl, B3.out⟩
  · have h0' : (ea == 0) = false := by simpa using h0
    have e1 : Hid (res = 0) := Lib.hid (by rw [HF.out, if_neg h0])
    have e2 : Hid (rer = ea) := Lib.hid (by rw [HE.out, if_neg h0])
    go_wp2
    go_ret2
    exact ⟨by rw [e1.out, e2.out]; rfl, B1.out⟩
end Go.Proofs.YtnognphjndpgkaaDoor
