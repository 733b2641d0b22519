/- RuleOften, walked over what rule's functions and the document's table answer. -/
import Derived.Test.YtnognphjndpgkaaDoorPk10
import Derived.Test.YtnognphjndpgkaaDoorQIs
import Derived.Test.YtnognphjndpgkaaDoorCTab
import Derived.Test.YtnognphjndpgkaaDoorRRef2
namespace Go.Proofs.YtnognphjndpgkaaDoor
open Go.RowKit Go.Shelf
set_option linter.unusedSimpArgs false
set_option linter.unusedVariables false

theorem tabS_lenR (l : List Blk) : (tabS l).length ≤ l.length := by
  unfold tabS
  split
  · exact gat_len l
  · simp
theorem szL_tabR {l : List Blk} (h : szL l) : szL (tabS l) := fun z hz => by
  unfold tabS at hz
  split at hz
  · rcases gat_keys l [] z hz with ⟨y, hy, e⟩ | ⟨y, hy, _⟩
    · have := h y hy
      rw [← e.1, ← e.2] at this
      exact this
    · simp at hy
  · simp at hz
/-- What is made of a table, with one least count and a greater one. -/
theorem often_facts {T : List Blk} (h : chkT T = 0) {n m : Int} (hn : 1 ≤ n) (hnm : n ≤ m) (hm : m ≤ 1073741824) :
    mkE T n = 0 ∧ mkE T m = 0 ∧ mkS T n = mkR T n ∧ mkS T m = mkR T m ∧ risS (mkR T n) = 0 ∧ risS (mkR T m) = 0 ∧ (mkR T m).length ≤ (mkR T n).length ∧
    (∀ r ∈ mkR T m, rfS (mkR T n) (r.1, r.2.1, 0) = r.2.2 ∧ rfE (mkR T n) (r.1, r.2.1, 0) = 0 ∧ m ≤ finS T (r.1, r.2.1, 0)) ∧
    (∀ r ∈ mkR T m, ∀ s ∈ mkR T m, finS T (r.1, r.2.1, 0) < finS T (s.1, s.2.1, 0) → s.2.2 ≤ r.2.2) := by
  have e1 : mkE T n = 0 := by unfold mkE; rw [if_pos h, if_neg (by omega)]
  have e2 : mkE T m = 0 := by unfold mkE; rw [if_pos h, if_neg (by omega)]
  have i1 := mk_is h n
  have i2 := mk_is h m
  have hmore := mk_more T hnm
  have hf : ∀ r : Blk, finS T (r.1, r.2.1, 0) = cnt T r := fun r => by
    unfold finS
    rw [if_pos h]
    exact cnt_key (a := (r.1, r.2.1, 0)) (b := r) ⟨rfl, rfl⟩
  refine ⟨e1, e2, by rw [mkS, if_pos e1], by rw [mkS, if_pos e2], i1, i2, hmore.1, fun r hr => ?_, fun r hr s hs hlt => ?_⟩
  · have hc := mk_cost T n r (hmore.2 r hr)
    have hl : lst (mkR T n) (r.1, r.2.1, 0) = r.2.2 := by
      rw [lst_key (a := (r.1, r.2.1, 0)) (b := r) ⟨rfl, rfl⟩]
      exact lst_srt (risS_facts i1).2.1 (mk_cost T n) r (hmore.2 r hr)
    refine ⟨?_, ?_, ?_⟩
    · unfold rfS; rw [if_pos i1, hl, if_neg (by omega)]
    · unfold rfE; rw [if_pos i1, hl, if_neg (by omega)]
    · rw [hf]; exact (mk_seen h hr).1
  · rw [hf, hf] at hlt
    exact mk_often h hr hs (by omega)
theorem mkR_szL {l : List Blk} (h : szL l) (n : Int) : szL (mkR l n) := szL_mk h n

set_option maxRecDepth 100000 in
set_option maxHeartbeats 32000000 in
theorem ruleOften_walk (u : Value) (l : List Blk) (a d : Nat) (ha : a < 65536) (hd : d < 65536) (w : World) (h : Okw w) (hu : BRuns w u l) (hl : l.length ≤ 1000000) (hz : szL l) :
    Calls Tryd.prog 7 #[u, .int .u16 (a : Int), .int .u16 (d : Int)] w (RetTrue w) := by
  have t1 := fun w hu => refTable_wide u l w hu hl hz
  have m1 := fun x w hO hx => rmake_any x (tabS l) ((a : Int) + 1) w hO hx (by have := tabS_lenR l; omega) (szL_tabR hz)
  have m2 := fun x w hO hx => rmake_any x (tabS l) ((a : Int) + 1 + (d : Int)) w hO hx (by have := tabS_lenR l; omega) (szL_tabR hz)
  have i1 := fun x w hO hx => ris_any x (mkR (tabS l) ((a : Int) + 1)) w hO hx (by have := tabS_lenR l; have := mk_len (tabS l) ((a : Int) + 1); omega) (mkR_szL (szL_tabR hz) _)
  have i2 := fun x w hO hx => ris_any x (mkR (tabS l) ((a : Int) + 1 + (d : Int))) w hO hx (by have := tabS_lenR l; have := mk_len (tabS l) ((a : Int) + 1 + (d : Int)); omega) (mkR_szL (szL_tabR hz) _)
  have r1 := fun x p q w hO hx => rfind_any x (mkR (tabS l) ((a : Int) + 1)) p q w hO hx (by have := tabS_lenR l; have := mk_len (tabS l) ((a : Int) + 1); omega) (mkR_szL (szL_tabR hz) _)
  have c1 := fun x p q w hO hx => find_any x (tabS l) p q w hO hx (by have := tabS_lenR l; omega) (szL_tabR hz)
  have f1 : tabE l = 0 → chkT (tabS l) = 0 := fun h => by rw [tabS, if_pos h]; exact tab_chk h
  have f2 := fun (h : chkT (tabS l) = 0) => often_facts h (n := (a : Int) + 1) (m := (a : Int) + 1 + (d : Int)) (by omega) (by omega) (by omega)
  have hlT := tabS_lenR l
  have hmT := mk_len (tabS l) ((a : Int) + 1 + (d : Int))
  obtain ⟨ea, hea⟩ : ∃ z, tabE l = z := ⟨_, rfl⟩
  obtain ⟨T, hT⟩ : ∃ z, tabS l = z := ⟨_, rfl⟩
  simp only [hea, hT] at t1 m1 m2 i1 i2 r1 c1 f1 f2 hlT hmT
  obtain ⟨X, hX⟩ : ∃ z, mkR T ((a : Int) + 1) = z := ⟨_, rfl⟩
  obtain ⟨Y, hY⟩ : ∃ z, mkR T ((a : Int) + 1 + (d : Int)) = z := ⟨_, rfl⟩
  simp only [hX, hY] at i1 i2 r1 f2 hmT
  obtain ⟨xe, hxe⟩ : ∃ z, mkE T ((a : Int) + 1) = z := ⟨_, rfl⟩
  obtain ⟨ye, hye⟩ : ∃ z, mkE T ((a : Int) + 1 + (d : Int)) = z := ⟨_, rfl⟩
  obtain ⟨xs, hxs⟩ : ∃ z, mkS T ((a : Int) + 1) = z := ⟨_, rfl⟩
  obtain ⟨ys, hys⟩ : ∃ z, mkS T ((a : Int) + 1 + (d : Int)) = z := ⟨_, rfl⟩
  obtain ⟨ix, hix⟩ : ∃ z, risS X = z := ⟨_, rfl⟩
  obtain ⟨iy, hiy⟩ : ∃ z, risS Y = z := ⟨_, rfl⟩
  obtain ⟨ct, hct⟩ : ∃ z, chkT T = z := ⟨_, rfl⟩
  simp only [hxe, hye, hxs, hys, hix, hiy, hct] at m1 m2 i1 i2 c1 f1 f2
  clear hea hT hX hY hxe hye hxs hys hix hiy hct
  obtain ⟨A, c, e⟩ := hu.slice
  obtain ⟨n, hn⟩ : ∃ n, l.length = n := ⟨_, rfl⟩
  rw [hn] at e hl hlT
  subst e
  obtain ⟨nt, hnt⟩ : ∃ n, T.length = n := ⟨_, rfl⟩
  have wa1 : IntKind.i64.wrap (a : Int) = (a : Int) := by rw [IntKind.wrap_i64]; omega
  have wd1 : IntKind.i64.wrap (d : Int) = (d : Int) := by rw [IntKind.wrap_i64]; omega
  have wa2 : IntKind.i64.wrap ((a : Int) + 1) = (a : Int) + 1 := by rw [IntKind.wrap_i64]; omega
  have wa3 : IntKind.i64.wrap ((a : Int) + 1 + (d : Int)) = (a : Int) + 1 + (d : Int) := by rw [IntKind.wrap_i64]; omega
  have HU := Lib.hid hu; have T1 := Lib.hid t1; have M1 := Lib.hid m1; have M2 := Lib.hid m2; have I1 := Lib.hid i1; have I2 := Lib.hid i2; have R1 := Lib.hid r1; have C1 := Lib.hid c1; have F1 := Lib.hid f1; have F2 := Lib.hid f2; have HN := Lib.hid hn; have HNT := Lib.hid hnt
  rw [hnt] at hlT hmT
  clear hu t1 m1 m2 i1 i2 r1 c1 f1 f2 hn hz hnt
  have hmix : Tryd.prog.follows .mixedOrders = true := by kernel_rfl
  go_enter Tryd.func7, Tryd.ntmps7
  go_wp2_with fail
  refine (alive7_any _ h).mono ?_
  rintro e w1 ⟨rfl, b1⟩
  have U1 := Lib.hid (HU.out.below b1); have K1 : Hid (Okw w1) := Lib.hid (h.below b1)
  have B1 := Lib.hid b1; clear b1
  go_wp2_with fail
  refine (T1.out _ U1.out).mono ?_
  rintro e w2 ⟨vt, rfl, r2, b2⟩
  obtain ⟨At, kt, e2⟩ := r2.slice
  rw [HNT.out] at e2
  subst e2
  have R2 := Lib.hid r2; have K2 : Hid (Okw w2) := Lib.hid (K1.out.below b2)
  have B2 := Lib.hid (B1.out.trans (b2.mono B1.out.size)); clear b2 r2 U1 K1 B1 T1 HU
  by_cases hbig : 200 < n
  · have hb1 : (200 : Int) < (n : Int) := by omega
    go_wp2
    go_ret
    exact ⟨rfl, B2.out⟩
  have hb1 : ¬ (200 : Int) < (n : Int) := by omega
  by_cases h1 : ea = 0
  rotate_left
  · have h1' : (ea == 0) = false := by simpa using h1
    have h1'' : (ea != 0) = true := by simpa using h1
    go_wp2
    go_ret
    exact ⟨rfl, B2.out⟩
  subst h1
  have hc0 := F1.out (by first | rfl | trivial)
  obtain ⟨q1, q2, q3, q4, q5, q6, q7, q8, q9⟩ := F2.out hc0
  subst hc0 q1 q2 q5 q6
  rw [q3] at M1
  rw [q4] at M2
  obtain ⟨nx, hnx⟩ : ∃ n, X.length = n := ⟨_, rfl⟩
  obtain ⟨ny, hny⟩ : ∃ n, Y.length = n := ⟨_, rfl⟩
  rw [hnx, hny] at q7
  rw [hny] at hmT
  have HNX := Lib.hid hnx; have HNY := Lib.hid hny; have Q8 := Lib.hid q8; have Q9 := Lib.hid q9
  clear F1 F2 q3 q4 q8 q9 hnx hny
  go_wp2_with fail
  refine (M1.out _ _ K2.out R2.out).mono ?_
  rintro e w3 ⟨va, rfl, r3, b3⟩
  obtain ⟨Aa, ka, e3⟩ := r3.slice
  rw [HNX.out] at e3
  subst e3
  have R3 := Lib.hid r3; have RT3 := Lib.hid (R2.out.below b3); have K3 : Hid (Okw w3) := Lib.hid (K2.out.below b3)
  have B3 := Lib.hid (B2.out.trans (b3.mono B2.out.size)); clear b3 r3 R2 K2 B2 M1
  go_wp2_with fail
  refine (M2.out _ _ K3.out RT3.out).mono ?_
  rintro e w4 ⟨vb, rfl, r4, b4⟩
  obtain ⟨Ab, kb, e4⟩ := r4.slice
  rw [HNY.out] at e4
  subst e4
  have R4 := Lib.hid r4; have RX4 := Lib.hid (R3.out.below b4); have RT4 := Lib.hid (RT3.out.below b4); have K4 : Hid (Okw w4) := Lib.hid (K3.out.below b4)
  have B4 := Lib.hid (B3.out.trans (b4.mono B3.out.size)); clear b4 r4 R3 RT3 K3 B3 M2
  go_wp2_with fail
  refine (I1.out _ _ K4.out RX4.out).mono ?_
  rintro e w5 ⟨rfl, b5⟩
  have R5 := Lib.hid (R4.out.below b5); have RX5 := Lib.hid (RX4.out.below b5); have RT5 := Lib.hid (RT4.out.below b5); have K5 : Hid (Okw w5) := Lib.hid (K4.out.below b5)
  have B5 := Lib.hid (B4.out.trans (b5.mono B4.out.size)); clear b5 R4 RX4 RT4 K4 B4 I1
  go_wp2_with fail
  refine (I2.out _ _ K5.out R5.out).mono ?_
  rintro e w6 ⟨rfl, b6⟩
  have R6 := Lib.hid (R5.out.below b6); have RX6 := Lib.hid (RX5.out.below b6); have RT6 := Lib.hid (RT5.out.below b6); have K6 : Hid (Okw w6) := Lib.hid (K5.out.below b6)
  have B6 := Lib.hid (B5.out.trans (b6.mono B5.out.size)); clear b6 R5 RX5 RT5 K5 B5 I2
  have s7 : ¬ (nx : Int) < (ny : Int) := by omega
  have s8 : decide ((nx : Int) < (ny : Int)) = false := decide_eq_false s7
  have s9 : decide (nx < ny) = false := decide_eq_false (by omega)
  go_wp2
  go_loopw [85] (fun s85 wr => ∃ j : Nat, j ≤ ny ∧ s85 = .int .i64 j ∧ Hid (Below w6.heap.size w6 wr)) (fun s85 _ => ny - (RowKit.intOf s85).toNat)
  case atStart => exact ⟨0, Nat.zero_le _, rfl, Lib.hid (Below.refl _ _)⟩
  case round =>
    obtain ⟨j, hjn, rfl, BJ⟩ := hrel
    by_cases hj : j < ny
    · have j1 : (j : Int) < (ny : Int) := by omega
      obtain ⟨⟨p1, p2, p3⟩, hp⟩ : ∃ p, Y[j]? = some p := ⟨_, List.getElem?_eq_getElem (by rw [HNY.out]; exact hj)⟩
      obtain ⟨b, o, rfl, _, hcc⟩ := (R6.out.below BJ.out).cells HNY.out (by omega)
      obtain ⟨g0, g1, g2⟩ := blk_cells hcc hp
      simp only at g0 g1 g2
      obtain ⟨z1, z2, z3⟩ := Q8.out _ (List.mem_of_getElem? hp)
      have z4 := Q9.out _ (List.mem_of_getElem? hp)
      simp only at z1 z2 z3 z4
      have hal := BJ.out.trans ((blw_one wr (.cells #[.string p1, .string p2, .int .i64 p3] 24)).mono BJ.out.size)
      obtain ⟨x0, x1, x2⟩ := cells3_new wr (.string p1) (.string p2) (.int .i64 p3) 24
      have hltb : wr.heap.size < (wr.alloc (.cells #[.string p1, .string p2, .int .i64 p3] 24)).heap.size := by simp
      have cf := R1.out _ p1 p2 (wr.alloc (.cells #[.string p1, .string p2, .int .i64 p3] 24)) (K6.out.below hal) (RX6.out.below hal)
      rw [z1, z2] at cf
      obtain ⟨sv, hsv⟩ : ∃ z, finS T (p1, p2, 0) = z := ⟨_, rfl⟩
      rw [hsv] at z3 z4
      obtain ⟨wa, hwa⟩ : ∃ z, wr.alloc (.cells #[.string p1, .string p2, .int .i64 p3] 24) = z := ⟨_, rfl⟩
      obtain ⟨bx, hbx⟩ : ∃ z, wr.heap.size = z := ⟨_, rfl⟩
      rw [hwa] at cf hal x0 x1 x2 hltb
      rw [hbx] at x0 x1 x2 hltb
      have CF := Lib.hid cf; have HAL := Lib.hid hal; have HWA := Lib.hid hwa; have HBX := Lib.hid hbx; have HSV := Lib.hid hsv; have Z4 := Lib.hid z4
      clear cf hal hwa hbx hsv z1 z2 z4 hcc hp
      go_wp2_with fail
      rw [HWA.out, HBX.out]
      refine CF.out.mono ?_
      rintro e w7 ⟨rfl, b7⟩
      have y0 := (b7.cell (p := ⟨bx, 0, none⟩) hltb).trans x0
      have y1 := (b7.cell (p := ⟨bx, 1, none⟩) hltb).trans x1
      have y2 := (b7.cell (p := ⟨bx, 2, none⟩) hltb).trans x2
      have lt7 : bx < w7.heap.size := Nat.lt_of_lt_of_le hltb b7.size
      have B7 : Hid (Below w6.heap.size w6 w7) := Lib.hid (HAL.out.trans (b7.mono HAL.out.size))
      clear b7 x0 x1 x2 g0 g1 g2 CF HAL HWA HBX
      have cc := C1.out _ p1 p2 w7 (K6.out.below B7.out) (RT6.out.below B7.out)
      rw [HSV.out] at cc
      have CC := Lib.hid cc; clear cc
      go_wp2_with fail
      refine CC.out.mono ?_
      rintro e w8 ⟨rfl, b8⟩
      have x0 := (b8.cell (p := ⟨bx, 0, none⟩) lt7).trans y0
      have x1 := (b8.cell (p := ⟨bx, 1, none⟩) lt7).trans y1
      have x2 := (b8.cell (p := ⟨bx, 2, none⟩) lt7).trans y2
      have lt8 : bx < w8.heap.size := Nat.lt_of_lt_of_le lt7 b8.size
      have B8 : Hid (Below w6.heap.size w6 w8) := Lib.hid (B7.out.trans (b8.mono B7.out.size))
      clear b8 y0 y1 y2 CC B7 lt7
      have z3' : ¬ sv < (a : Int) + 1 + (d : Int) := by omega
      have HX2 := Lib.hid x2
      go_wp2
      clear x0 x1 x2
      go_loopw [126] (fun s126 wr' => ∃ i : Nat, i ≤ ny ∧ s126 = .int .i64 i ∧ Hid (Below w8.heap.size w8 wr')) (fun s126 _ => ny - (RowKit.intOf s126).toNat)
      case atStart => exact ⟨0, Nat.zero_le _, rfl, Lib.hid (Below.refl _ _)⟩
      case round =>
        obtain ⟨i, hin, rfl, BI⟩ := hrel
        by_cases hi : i < ny
        · have i1 : (i : Int) < (ny : Int) := by omega
          obtain ⟨⟨t1, t2, t3⟩, ht⟩ : ∃ p, Y[i]? = some p := ⟨_, List.getElem?_eq_getElem (by rw [HNY.out]; exact hi)⟩
          have B6I := B8.out.trans (BI.out.mono B8.out.size)
          obtain ⟨b'', o'', eb'', _, hcc⟩ := (R6.out.below B6I).cells HNY.out (by omega)
          have eb1 := Option.some.inj eb''
          simp only [Addr.mk.injEq] at eb1
          obtain ⟨rfl, rfl, _⟩ := eb1
          obtain ⟨g0, g1, g2⟩ := blk_cells hcc ht
          simp only at g0 g1 g2
          have z5 := Z4.out _ (List.mem_of_getElem? ht)
          simp only at z5
          have hal := B6I.trans ((blw_one wr (.cells #[.string t1, .string t2, .int .i64 t3] 24)).mono B6I.size)
          have hal8 := BI.out.trans ((blw_one wr (.cells #[.string t1, .string t2, .int .i64 t3] 24)).mono BI.out.size)
          obtain ⟨v0, v1, v2⟩ := cells3_new wr (.string t1) (.string t2) (.int .i64 t3) 24
          have hltb2 : wr.heap.size < (wr.alloc (.cells #[.string t1, .string t2, .int .i64 t3] 24)).heap.size := by simp
          have cf := C1.out _ t1 t2 (wr.alloc (.cells #[.string t1, .string t2, .int .i64 t3] 24)) (K6.out.below hal) (RT6.out.below hal)
          obtain ⟨ov, hov⟩ : ∃ z, finS T (t1, t2, 0) = z := ⟨_, rfl⟩
          rw [hov] at cf z5
          obtain ⟨wb, hwb⟩ : ∃ z, wr.alloc (.cells #[.string t1, .string t2, .int .i64 t3] 24) = z := ⟨_, rfl⟩
          obtain ⟨by', hby⟩ : ∃ z, wr.heap.size = z := ⟨_, rfl⟩
          rw [hwb] at cf hal hal8 v0 v1 v2 hltb2
          rw [hby] at v0 v1 v2 hltb2
          have CF := Lib.hid cf; have HAL8 := Lib.hid hal8; have HWB := Lib.hid hwb; have HBY := Lib.hid hby; have Z5 := Lib.hid z5
          clear cf hal hal8 hwb hby hov hcc ht z5 B6I
          go_wp2_with fail
          rw [HWB.out, HBY.out]
          refine CF.out.mono ?_
          rintro e w9 ⟨rfl, b9⟩
          have n2 := (b9.cell (p := ⟨by', 2, none⟩) hltb2).trans v2
          have B9 : Hid (Below w8.heap.size w8 w9) := Lib.hid (HAL8.out.trans (b9.mono HAL8.out.size))
          have x2 := (B9.out.cell (p := ⟨bx, 2, none⟩) lt8).trans HX2.out
          clear b9 g0 g1 g2 v0 v1 v2 CF
          by_cases ho : sv < ov
          · have hnl : ¬ p3 < t3 := by have := Z5.out ho; omega
            go_wp2
            exact ⟨⟨i + 1, by omega, by go_num, B9⟩, by simp [RowKit.intOf]; omega⟩
          · go_wp2
            exact ⟨⟨i + 1, by omega, by go_num, B9⟩, by simp [RowKit.intOf]; omega⟩
        · obtain rfl : i = ny := by omega
          have BE : Hid (Below w6.heap.size w6 wr) := Lib.hid (B8.out.trans (BI.out.mono B8.out.size))
          go_wp2
          exact ⟨⟨j + 1, by omega, by go_num, BE⟩, by simp [RowKit.intOf]; omega⟩
    · obtain rfl : j = ny := by omega
      have BE := Lib.hid (B6.out.trans (BJ.out.mono B6.out.size))
      go_wp2
      go_ret
      exact ⟨rfl, BE.out⟩
end Go.Proofs.YtnognphjndpgkaaDoor
