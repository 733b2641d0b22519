/- WalkStates, walked over what walk's functions and the document's own answer. -/
import Derived.Test.YtljaibhhkjapmaaDoorPk21
import Derived.Test.YtljaibhhkjapmaaDoorPk19
import Derived.Test.YtljaibhhkjapmaaDoorPk22
import Derived.Test.YtljaibhhkjapmaaDoorKNxt
import Derived.Test.YtljaibhhkjapmaaDoorPk20
namespace Go.Proofs.YtljaibhhkjapmaaDoor
open Go.RowKit Go.Shelf
attribute [local go_sem] Oper.semAt_some
set_option linter.unusedSimpArgs false
set_option linter.unusedVariables false

theorem ltrs_le {W : Rst} (h : ∀ l ∈ W, l.length ≤ 64) : ltrs W ≤ W.length * 64 := by
  unfold ltrs
  induction W with
  | nil => simp
  | cons x W ih =>
    have h1 := h x (by simp)
    have h2 := ih (fun l hl => h l (by simp [hl]))
    simp only [List.map_cons, List.sum_cons, List.length_cons]
    omega
theorem ltrs_words {X : List Wrd} (hn : wisS X = 0) (hx : X.length ≤ 60) : ltrs (rnW X) ≤ 90000 := by
  have h1 := ltrs_le (fun l hl => (rnW_facts hn l hl).2.1)
  rw [rnW, List.length_map] at h1
  show ltrs (rnW X) ≤ _
  unfold rnW
  omega
theorem lng_doc {X : List Wrd} (hn : wisS X = 0) (s : ByteArray) : (if uE s.data.toList = 0 then lgD X s else ⟨#[]⟩) = ulS (rnW X) s.data.toList ∧ (if uE s.data.toList = 0 then (if lgD X s = ⟨#[]⟩ then (10 : Int) else 0) else uE s.data.toList) = ulE (rnW X) s.data.toList := by
  by_cases he : uE s.data.toList = 0
  · obtain ⟨hv, hl, hus⟩ := uE_ok he
    have hlg := lgD_is hn hv
    have hS : ulS (rnW X) s.data.toList = lgD X s := by rw [ulS, if_pos he, hus, hlg]; rfl
    have hE : ulE (rnW X) s.data.toList = if lngN (rnW X) (rnK s) = 0 then 10 else 0 := by rw [ulE, if_pos he, hus]; rfl
    rw [if_pos he, if_pos he, hS, hE]
    refine ⟨rfl, ?_⟩
    rcases lngN_spec (no_empty hn) (rnK s) with ⟨e, h1⟩ | ⟨e, h1, h2, h3⟩
    · have h2 : lgD X s = ⟨#[]⟩ := by
        rw [hlg, e, List.take_zero]
        rfl
      rw [if_pos e, if_pos h2]
    · obtain ⟨b, hb, eb⟩ := List.mem_map.1 h2
      have e2 : lgD X s = b.1 := by rw [hlg, ← eb, mkT_rn (valid_of hn hb)]
      have h4 : ¬ lgD X s = ⟨#[]⟩ := fun h => by
        have := word_some hn hb
        rw [← e2, h] at this
        exact Nat.lt_irrefl 0 this
      have h5 : ¬ lngN (rnW X) (rnK s) = 0 := by omega
      rw [if_neg h4, if_neg h5]
  · rw [if_neg he, if_neg he, ulS, ulE, if_neg he, if_neg he]
    exact ⟨rfl, rfl⟩
theorem count_doc {X : List Wrd} (hn : wisS X = 0) (s : ByteArray) : (if uE s.data.toList = 0 then ((begL X s).length : Int) else 0) = ucN X s := by
  rw [begL_len (wisS_facts hn).2.1]; rfl
set_option maxRecDepth 100000 in
set_option maxHeartbeats 64000000 in
theorem walkStates_walk (u : Value) (l : List Wrd) (s : ByteArray) (w : World) (h : Okw w) (hu : WRuns w u l) (hz : szMW l) (hs : s.size ≤ 140737488355328) :
    Calls Tryd.prog 4 #[u, .string s] w (RetTrue w) := by
  have m1 := fun w hO hu => made_any u l s w hO hu hz (by omega)
  obtain ⟨X, hX⟩ : ∃ z, worS l = z := ⟨_, rfl⟩
  have HU := Lib.hid hu; have M1 := Lib.hid m1
  clear hu m1 hz
  go_enter Tryd.func4, Tryd.ntmps4
  go_wp2_with fail
  refine (alive11_any _ h).mono ?_
  rintro e w1 ⟨rfl, b1⟩
  have U1 := Lib.hid (HU.out.below b1); have K1 : Hid (Okw w1) := Lib.hid (h.below b1)
  have B1 := Lib.hid b1; clear b1
  go_wp2_with fail
  refine (M1.out _ K1.out U1.out).mono ?_
  rintro e w2 ⟨b2, hp⟩
  have K2 : Hid (Okw w2) := Lib.hid (K1.out.below b2); have B2 := Lib.hid (B1.out.trans (b2.mono B1.out.size))
  clear b2 M1
  rcases hp with rfl | ⟨d, v, rfl, hq, hd, hv⟩
  · go_wp2
    go_ret
    exact ⟨rfl, B2.out⟩
  rw [hX] at hq hd hv
  obtain ⟨hn, hx60, hs8, hzx⟩ := hq
  have hlt := ltrs_words hn hx60
  have hsz : ∀ x ∈ X, x.1.size * 4 ≤ 140737488355328 := fun x hx => by have := hzx x hx; omega
  obtain ⟨ld1, ld2⟩ := lng_doc hn s
  have lc := count_doc hn s
  have ca := fun w' (hb : Below w2.heap.size w2 w') => ustate_any w' d X hn _ rfl (hd.below hb) s (K2.out.below hb) (by omega)
  have cb := fun w' (hb : Below w2.heap.size w2 w') => ustate_ref v X hn s w' (hv.below hb) (by omega) (by omega) hsz hlt
  have cc := fun w' (hb : Below w2.heap.size w2 w') => ucount_any w' d X hn _ rfl (hd.below hb) s (K2.out.below hb) (by omega)
  have cd := fun w' (hb : Below w2.heap.size w2 w') => ucount_ref v X s w' (hv.below hb) (by omega) (by omega)
  have ce := fun w' (hb : Below w2.heap.size w2 w') => ulongest_any w' d X hn _ rfl (hd.below hb) s (K2.out.below hb) (by omega)
  have cf := fun w' (hb : Below w2.heap.size w2 w') => ulongest_ref v X s w' (hv.below hb) (by omega) (by omega)
  simp only [ld1, ld2, lc] at cd cf
  obtain ⟨aN, haN⟩ : ∃ z, ustN (staQ (rnW X)) (rnW X) s.data.toList = z := ⟨_, rfl⟩
  obtain ⟨aE, haE⟩ : ∃ z, ustE (rnW X) s.data.toList = z := ⟨_, rfl⟩
  obtain ⟨cN, hcN⟩ : ∃ z, ucN X s = z := ⟨_, rfl⟩
  obtain ⟨er, her⟩ : ∃ z, uE s.data.toList = z := ⟨_, rfl⟩
  obtain ⟨oS, hoS⟩ : ∃ z, ulS (rnW X) s.data.toList = z := ⟨_, rfl⟩
  obtain ⟨oE, hoE⟩ : ∃ z, ulE (rnW X) s.data.toList = z := ⟨_, rfl⟩
  simp only [haN, haE, hcN, her, hoS, hoE] at ca cb cc cd ce cf
  have CA := Lib.hid ca; have CB := Lib.hid cb; have CC := Lib.hid cc; have CD := Lib.hid cd; have CE := Lib.hid ce; have CF := Lib.hid cf
  clear ca cb cc cd ce cf ld1 ld2 lc haN haE hcN her hoS hoE hn hzx hd hv hX hs8 hx60 hs hlt hsz
  have n1 : (aN == aN) = true := beq_self_eq_true _
  have n2 : (aE == aE) = true := beq_self_eq_true _
  have n3 : (cN == cN) = true := beq_self_eq_true _
  have n4 : (er == er) = true := beq_self_eq_true _
  have n5 : (oS.toList == oS.toList) = true := beq_self_eq_true _
  have n6 : (oE == oE) = true := beq_self_eq_true _
  go_wp2_with fail
  refine (CA.out _ (Below.refl _ _)).mono ?_
  rintro e w3 ⟨rfl, b3⟩
  have B3 := Lib.hid b3
  clear b3
  go_wp2_with fail
  refine (CB.out _ B3.out).mono ?_
  rintro e w4 ⟨rfl, b4⟩
  have B4 := Lib.hid (B3.out.trans (b4.mono B3.out.size))
  clear b4
  go_wp2_with fail
  refine (CC.out _ B4.out).mono ?_
  rintro e w5 ⟨rfl, b5⟩
  have B5 := Lib.hid (B4.out.trans (b5.mono B4.out.size))
  clear b5
  go_wp2_with fail
  refine (CD.out _ B5.out).mono ?_
  rintro e w6 ⟨rfl, b6⟩
  have B6 := Lib.hid (B5.out.trans (b6.mono B5.out.size))
  clear b6
  go_wp2_with fail
  refine (CE.out _ B6.out).mono ?_
  rintro e w7 ⟨rfl, b7⟩
  have B7 := Lib.hid (B6.out.trans (b7.mono B6.out.size))
  clear b7
  go_wp2_with fail
  refine (CF.out _ B7.out).mono ?_
  rintro e w8 ⟨rfl, b8⟩
  have B8 := Lib.hid (B2.out.trans ((B7.out.trans (b8.mono B7.out.size)).mono B2.out.size))
  clear b8
  go_wp2
  go_ret
  exact ⟨rfl, B8.out⟩
end Go.Proofs.YtljaibhhkjapmaaDoor
