/- LexiconBegins, walked over what lexicon's functions answer. -/
import Derived.Test.YtdlmjoijadkphaaDoorPk7
import Derived.Test.YtdlmjoijadkphaaDoorYBegP
import Derived.Test.YtdlmjoijadkphaaDoorXBeg
import Derived.Laws.IdiomStrings
namespace Go.Proofs.YtdlmjoijadkphaaDoor
open Go.RowKit Go.Shelf
set_option linter.unusedSimpArgs false
set_option linter.unusedVariables false

set_option maxRecDepth 100000 in
set_option maxHeartbeats 32000000 in
theorem lexiconBegins_walk (u : Value) (l : List Wrd) (s : ByteArray) (bb : Int) (hb0 : 0 ≤ bb) (hb1 : bb < 256) (w : World) (h : Okw w) (hu : WRuns w u l) (hl : l.length ≤ 2000000) (hz : szW l) (hs : s.size ≤ 2000000) :
    Calls Tryd.prog 7 #[u, .string s, .int .u8 bb] w (RetTrue w) := by
  have g1 := fun w hu => great9_det u l w hu (fun b hb => by have := hz b hb; omega)
  have n1 := fun w hO hu => xnormal_any u l w hO hu hl hz
  have hgl := fun (hg : grW l = false) => (grW_no hg).1
  have bgs := fun v k w hO hv => xbegins_any v (worS l) k w hO hv (by have := worS_len l; omega) (szW_nor hz)
  have hfx : worE l = 0 → wisS (worS l) = 0 ∧ SrtW (worS l) := fun h0 => ⟨wor_is h0, (wisS_facts (wor_is h0)).2.1⟩
  obtain ⟨gr, hgr⟩ : ∃ z, grW l = z := ⟨_, rfl⟩
  obtain ⟨ea, hea⟩ : ∃ z, worE l = z := ⟨_, rfl⟩
  have hxl := worS_len l
  obtain ⟨X, hX⟩ : ∃ z, worS l = z := ⟨_, rfl⟩
  simp only [hgr] at g1 hgl
  simp only [hea, hX] at n1 hfx
  simp only [hX] at bgs hxl
  obtain ⟨nx, hnx⟩ : ∃ z, X.length = z := ⟨_, rfl⟩
  rw [hnx] at hxl
  obtain ⟨A, c, e⟩ := hu.slice
  obtain ⟨n, hn⟩ : ∃ n, l.length = n := ⟨_, rfl⟩
  rw [hn] at e hl hgl hxl
  subst e
  have HU := Lib.hid hu; have G1 := Lib.hid g1; have N1 := Lib.hid n1; have HGL := Lib.hid hgl; have BGS := Lib.hid bgs; have HFX := Lib.hid hfx; have HNX := Lib.hid hnx
  clear hu g1 n1 hgl bgs hfx hnx hn hz hgr hea hX
  go_enter Tryd.func7, Tryd.ntmps7
  go_wp2_with fail
  refine (alive9_any _ h).mono ?_
  rintro e w1 ⟨rfl, b1⟩
  have U1 := Lib.hid (HU.out.below b1); have K1 : Hid (Okw w1) := Lib.hid (h.below b1)
  have B1 := Lib.hid b1; clear b1
  go_wp2_with fail
  refine (N1.out _ K1.out U1.out).mono ?_
  rintro e w2 ⟨va, rfl, ra, b2⟩
  obtain ⟨Aa, ka, ea2⟩ := ra.slice
  rw [HNX.out] at ea2
  subst ea2
  have U2 := Lib.hid (U1.out.below b2); have K2 : Hid (Okw w2) := Lib.hid (K1.out.below b2)
  have R2 := Lib.hid ra
  have B2 := Lib.hid (B1.out.trans (b2.mono B1.out.size)); clear b2 ra U1 K1 B1
  go_wp2_with fail
  refine (G1.out _ U2.out).mono ?_
  rintro e w3 ⟨rfl, b3⟩
  have K3 : Hid (Okw w3) := Lib.hid (K2.out.below b3)
  have R3 := Lib.hid (R2.out.below b3)
  have B3 := Lib.hid (B2.out.trans (b3.mono B2.out.size)); clear b3 U2 K2 B2 R2 G1 N1
  cases gr
  rotate_left
  · go_wp2
    go_ret
    exact ⟨rfl, B3.out⟩
  by_cases hs1 : 1000 < s.size
  · have hs' : (1000 : Int) < (s.size : Int) := by omega
    go_wp2
    go_ret
    exact ⟨rfl, B3.out⟩
  have hs' : ¬ (1000 : Int) < (s.size : Int) := by omega
  by_cases h0 : ea = 0
  rotate_left
  · have h0' : (ea == 0) = false := by simpa using h0
    have h0'' : (ea != 0) = true := by simpa using h0
    go_wp2
    go_ret
    exact ⟨rfl, B3.out⟩
  subst h0
  have hn5 := HGL.out (by first | rfl | trivial)
  obtain ⟨hwx, hsx⟩ := HFX.out (by first | rfl | trivial)
  have hxb := bgN_le X s
  rw [HNX.out] at hxb
  have cb1 := BGS.out (.slice Aa nx ka) s w3 K3.out R3.out
  have hj := fun i v hv => beg_just hsx s i v hv
  have hmo := fun s2 b e => beg_more (s := s) (s2 := s2) (b := b) hsx e
  unfold wbgF wbgT at cb1
  rw [if_pos hwx, if_pos hwx, hwx] at cb1
  have cb2 := fun s2 w hO hv => BGS.out (.slice Aa nx ka) s2 w hO hv
  simp only [wbgF, wbgT, if_pos hwx] at cb2
  simp only [hwx] at cb2
  obtain ⟨x, hx⟩ : ∃ z, bgF X s = z := ⟨_, rfl⟩
  obtain ⟨d, hd⟩ : ∃ z, bgN X s = z := ⟨_, rfl⟩
  rw [hx, hd] at cb1 hxb
  simp only [hx, hd] at hj hmo
  have CB1 := Lib.hid cb1; have CB2 := Lib.hid cb2; have HJ := Lib.hid hj; have HMO := Lib.hid hmo
  clear cb1 cb2 hj hmo hx hd hwx hsx HGL HFX BGS hs1
  go_wp2_with fail
  refine CB1.out.mono ?_
  rintro e w4 ⟨rfl, b4⟩
  have K4 : Hid (Okw w4) := Lib.hid (K3.out.below b4)
  have R4 := Lib.hid (R3.out.below b4)
  have B4 := Lib.hid (B3.out.trans (b4.mono B3.out.size)); clear b4 K3 R3 B3 CB1
  obtain ⟨by1, hby⟩ : ∃ z : UInt8, z = UInt8.ofNat bb.toNat := ⟨_, rfl⟩
  have hbv : (by1.toNat : Int) = bb := by
    rw [hby, UInt8.toNat_ofNat']
    omega
  have hal := bel_one w4 (.cells #[.int .u8 bb] 5)
  have hcv : (convert 46 9 (.slice (some ⟨w4.heap.size, 0, none⟩) 1 1)).run Tryd.prog (w4.alloc (.cells #[.int .u8 bb] 5)) = .ok (.string ⟨#[by1]⟩) (w4.alloc (.cells #[.int .u8 bb] 5)) :=
    run_convert_bytes_back (w4.alloc (.cells #[.int .u8 bb] 5)) _ _ 5 ⟨w4.heap.size, 0, none⟩ 1 [by1] Tryd.underlying46 Tryd.underlying5 Tryd.underlying9 (fun j hj => by
      obtain rfl : j = 0 := by simpa using hj
      rw [addr_add, cell_of_row _ _ _ _ _ _ (heap_alloc_new w4 (.cells #[.int .u8 bb] 5))]
      simp [hbv])
  have cb := CB2.out (s ++ ⟨#[by1]⟩) (w4.alloc (.cells #[.int .u8 bb] 5)) (K4.out.below hal) (R4.out.below hal)
  have hm2 := HMO.out (s ++ ⟨#[by1]⟩) by1 (by rw [ByteArray.data_append, Array.toList_append])
  obtain ⟨s2, hs2⟩ : ∃ z, s ++ (⟨#[by1]⟩ : ByteArray) = z := ⟨_, rfl⟩
  have HS2 := Lib.hid hs2
  obtain ⟨z, hz2⟩ : ∃ z, bgF X (s ++ ⟨#[by1]⟩) = z := ⟨_, rfl⟩
  obtain ⟨d2, hd2⟩ : ∃ z, bgN X (s ++ ⟨#[by1]⟩) = z := ⟨_, rfl⟩
  rw [hz2, hd2] at cb hm2
  have CB := Lib.hid cb; have HM2 := Lib.hid hm2; have HAL := Lib.hid hal
  clear cb hm2 hz2 hd2 hby hbv hal CB2 HMO HS2 hs2
  go_wp2_with fail
  refine CB.out.mono ?_
  rintro e w6 ⟨rfl, b6⟩
  have R6 := Lib.hid ((R4.out.below HAL.out).below b6)
  have B6 := Lib.hid (B4.out.trans ((HAL.out.trans (b6.mono HAL.out.size)).mono B4.out.size)); clear b6 K4 R4 B4 CB hcv HAL
  obtain ⟨m1, m2⟩ := HM2.out
  have c1 : ¬ (x : Int) < 0 := by omega
  have c2 : ¬ (x : Int) + (d : Int) < (x : Int) := by omega
  have c3 : ¬ (nx : Int) < (x : Int) + (d : Int) := by omega
  have c4 : ¬ (z : Int) + (d2 : Int) < (z : Int) := by omega
  have c5 : ¬ (z : Int) < (x : Int) := by omega
  have c6 : ¬ (x : Int) + (d : Int) < (z : Int) + (d2 : Int) := by omega
  have hxd : x + d ≤ nx := hxb
  clear m1 m2 HM2
  obtain ⟨y, hy⟩ : ∃ y : Int, (x : Int) + (d : Int) = y := ⟨_, rfl⟩
  obtain ⟨ww, hww⟩ : ∃ y : Int, (z : Int) + (d2 : Int) = y := ⟨_, rfl⟩
  simp only [hy, hww] at c2 c3 c4 c6 ⊢
  have HPX := Lib.hid (fun v W => Tryd.strings_HasPrefix v s W)
  have HJ2 : Hid (∀ (i : Nat) (v : Wrd), X[i]? = some v → Lib.hasPrefix v.1.data.toList s.data.toList = (decide ((x : Int) ≤ (i : Int)) && decide ((i : Int) < y))) := Lib.hid (fun i v hv => by
    have := HJ.out i v hv
    rw [hy] at this
    exact this)
  clear hy hww hxd hxb HJ
  go_wp2
  go_loopw [91] (fun s91 wr => ∃ k : Nat, k ≤ nx ∧ s91 = .int .i64 k ∧ Hid (Below w6.heap.size w6 wr)) (fun s91 _ => nx - (RowKit.intOf s91).toNat)
  case atStart => exact ⟨0, Nat.zero_le _, rfl, Lib.hid (Below.refl _ _)⟩
  case round =>
    obtain ⟨k, hkn, rfl, BW⟩ := hrel
    by_cases hk : k < nx
    · have k1 : (k : Int) < (nx : Int) := by omega
      obtain ⟨⟨p1, p2⟩, hp⟩ : ∃ p, X[k]? = some p := ⟨_, List.getElem?_eq_getElem (by rw [HNX.out]; exact hk)⟩
      obtain ⟨b, o, rfl, _, hcc⟩ := (R6.out.below BW.out).cells HNX.out (by omega)
      obtain ⟨e0, e1⟩ := wrd_cells hcc hp
      simp only at e0 e1
      have hq := HJ2.out k _ hp
      simp only at hq
      have cp := fun W => HPX.out p1 W
      rw [hq] at cp
      have CP := Lib.hid cp
      have hal : Hid (Below w6.heap.size w6 (wr.alloc (.cells #[.string p1, .int .i64 p2] 24))) := Lib.hid (BW.out.alloc BW.out.size _)
      clear hcc hp hq cp
      by_cases a1 : (x : Int) ≤ (k : Int)
      · by_cases a2 : (k : Int) < y
        · rw [decide_eq_true a1, decide_eq_true a2] at CP
          go_wp2_with fail
          refine (CP.out _).mono ?_
          rintro e w9 ⟨rfl, e9⟩
          obtain rfl := e9.symm
          go_wp2
          exact ⟨⟨k + 1, by omega, by go_num, hal⟩, by simp [RowKit.intOf]; omega⟩
        · rw [decide_eq_true a1, decide_eq_false a2] at CP
          go_wp2_with fail
          refine (CP.out _).mono ?_
          rintro e w9 ⟨rfl, e9⟩
          obtain rfl := e9.symm
          go_wp2
          exact ⟨⟨k + 1, by omega, by go_num, hal⟩, by simp [RowKit.intOf]; omega⟩
      · rw [decide_eq_false a1] at CP
        simp only [Bool.false_and] at CP
        go_wp2_with fail
        refine (CP.out _).mono ?_
        rintro e w9 ⟨rfl, e9⟩
        obtain rfl := e9.symm
        go_wp2
        exact ⟨⟨k + 1, by omega, by go_num, hal⟩, by simp [RowKit.intOf]; omega⟩
    · obtain rfl : k = nx := by omega
      have BE := Lib.hid (B6.out.trans (BW.out.mono B6.out.size))
      go_wp2
      go_ret
      exact ⟨rfl, BE.out⟩
end Go.Proofs.YtdlmjoijadkphaaDoor
