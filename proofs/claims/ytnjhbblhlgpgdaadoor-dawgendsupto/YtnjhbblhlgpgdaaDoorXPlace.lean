/- slices.BinarySearchFunc over words, lexicon.place, Find. -/
import Derived.Test.YtnjhbblhlgpgdaaDoorPk6
import Derived.Test.YtnjhbblhlgpgdaaDoorPk4
import Derived.Deep.LoopGhost
import Derived.BigRegion
namespace Go.Proofs.YtnjhbblhlgpgdaaDoor
open Go.RowKit Go.Shelf Go.Lib
open Go.Sort (grow)
set_option linter.unusedSimpArgs false
set_option linter.unusedVariables false

/-- What a call keeps: a word of the row, all that is old. -/
structure XOne (w : World) (b p : Nat) (y : Wrd) (w' : World) : Prop where
  a0 : w'.cell? ⟨b, p, none⟩ = some (.string y.1)
  a1 : w'.cell? ⟨b, p + 1, none⟩ = some (.int .i64 y.2)
  lt : b < w'.heap.size
  bel : Below w.heap.size w w'
theorem XOne.step {w : World} {b p : Nat} {y : Wrd} {w' w'' : World} (h : XOne w b p y w') (hb : Below w'.heap.size w' w'') : XOne w b p y w'' :=
  ⟨(hb.cell (p := ⟨b, _, none⟩) h.lt).trans h.a0, (hb.cell (p := ⟨b, _, none⟩) h.lt).trans h.a1, Nat.lt_of_lt_of_le h.lt hb.size, h.bel.trans (hb.mono h.bel.size)⟩
theorem xgrow_cell {w : World} {p : Addr} {v : Value} (q : Nat) (os : Array Obj) (h : w.cell? p = some v) : (grow (w.drewN q) os).cell? p = some v := cell_keep (xbelow_grows w q os) h

set_option maxRecDepth 100000 in
set_option maxHeartbeats 8000000 in
theorem xbsearch_any (A : Option Addr) (n c : Nat) (l : List Wrd) (s : ByteArray) (w : World) (hn : l.length = n) (hu : WRuns w (.slice A n c) l) (hl : n ≤ 2000000) (m : Nat) (hm : m ≤ n)
    (h1 : ∀ j y, j < m → l[j]? = some y → ltK y.1 s = true) (h2 : ∀ j y, m ≤ j → l[j]? = some y → ltK y.1 s = false) :
    Calls Tryd.prog 80 #[.slice A n c, .string s, .func (.func 81) #[] #[]] w fun e w' =>
      e = .returned (.tuple #[.int .i64 (m : Nat), .bool (isAt l m s)]) ∧ Below w.heap.size w w' := by
  have C := Lib.hid plc1_lays
  obtain ⟨res, hres⟩ : ∃ z, isAt l m s = z := ⟨_, rfl⟩
  rw [hres]
  have HR := Lib.hid hres; clear hres
  have HU := Lib.hid hu
  have H1 := Lib.hid h1; have H2 := Lib.hid h2; have HN := Lib.hid hn
  clear h1 h2 hn hu
  go_enter Tryd.func80, Tryd.ntmps80
  have hmix : Tryd.prog.follows .mixedOrders = true := by kernel_rfl
  have eg : ∀ args w, (callFunc 81 args).run Tryd.prog w = .ok (.enter 81 args) w := enters_of Tryd.func81 (by kernel_rfl) rfl
  have HEG := Lib.hid eg; clear eg
  go_wp2
  go_loopg [9, 10] n (fun kx s9 s10 wr => ∃ lo hi : Nat, s9 = .int .i64 lo ∧ s10 = .int .i64 hi ∧ lo ≤ m ∧ m ≤ hi ∧ hi ≤ n ∧ hi - lo ≤ kx ∧ Hid (Below w.heap.size w wr))
  case atStart => exact ⟨0, n, rfl, rfl, Nat.zero_le _, hm, Nat.le_refl _, by omega, Lib.hid (Below.refl _ _)⟩
  case round =>
    obtain ⟨lo, hi, rfl, rfl, hlo, hhi, hin, hg, BW⟩ := hrel
    by_cases hlh : lo < hi
    · obtain ⟨h, hh⟩ : ∃ h, (lo + hi) / 2 = h := ⟨_, rfl⟩
      have hz : ((lo : Int) + (hi : Int)) / 2 = (h : Int) := by omega
      have hn1 : h < n := by omega
      have i1 : (h : Int) < (n : Int) := by omega
      obtain ⟨⟨y1, y2⟩, hy⟩ : ∃ y, l[h]? = some y := ⟨_, List.getElem?_eq_getElem (by rw [HN.out]; exact hn1)⟩
      obtain ⟨b, o, rfl, hblt, hc⟩ := (HU.out.below BW.out).cells HN.out (by omega)
      obtain ⟨g0, g1⟩ := wrd_cells hc hy
      simp only at g0 g1
      have c1 := fun w => C.out y1 y2 s w
      have h3 := cmpK_neg y1 s
      obtain ⟨er, her⟩ : ∃ z, cmpK y1 s = z := ⟨_, rfl⟩
      simp only [her] at c1
      rw [her] at h3
      have HY1 : Hid (er < 0 → h < m) := Lib.hid (fun e => by
          rcases Nat.lt_or_ge h m with q | q
          · exact q
          · have := H2.out h _ q hy
            rw [h3.1 e] at this; cases this)
      have HY2 : Hid (¬ er < 0 → m ≤ h) := Lib.hid (fun e => by
          rcases Nat.lt_or_ge h m with q | q
          · exact absurd (h3.2 (H1.out h _ q hy)) e
          · exact q)
      have C1 := Lib.hid c1
      clear hc hy h3 her c1
      have F0 := fun q os => xgrow_cell (w := wr) q os g0; have F1 := fun q os => xgrow_cell (w := wr) q os g1
      by_cases hneg : er < 0
      · have hlt' := HY1.out hneg
        go_wp2_with fail
        refine (C1.out _).mono ?_
        rintro e w4 ⟨rfl, q4, o4, h4⟩
        have b4 : Below wr.heap.size wr w4 := by rw [h4]; exact xbelow_grows _ _ _
        have B4 := Lib.hid (BW.out.trans (b4.mono BW.out.size))
        clear h4 b4
        go_wp2
        go_roundg (hi - (h + 1))
        case measure => omega
        case rel => exact ⟨h + 1, hi, by go_num, rfl, by omega, hhi, hin, Nat.le_refl _, B4⟩
      · have hge := HY2.out hneg
        go_wp2_with fail
        refine (C1.out _).mono ?_
        rintro e w4 ⟨rfl, q4, o4, h4⟩
        have b4 : Below wr.heap.size wr w4 := by rw [h4]; exact xbelow_grows _ _ _
        have B4 := Lib.hid (BW.out.trans (b4.mono BW.out.size))
        clear h4 b4
        go_wp2
        go_roundg (h - lo)
        case measure => omega
        case rel => exact ⟨lo, h, rfl, rfl, hlo, hge, by omega, Nat.le_refl _, B4⟩
    · obtain rfl : lo = m := by omega
      obtain rfl : hi = lo := by omega
      by_cases hmn : hi < n
      · have i1 : (hi : Int) < (n : Int) := by omega
        obtain ⟨⟨y1, y2⟩, hy⟩ : ∃ y, l[hi]? = some y := ⟨_, List.getElem?_eq_getElem (by rw [HN.out]; exact hmn)⟩
        obtain ⟨b, o, rfl, hblt, hc⟩ := (HU.out.below BW.out).cells HN.out (by omega)
        obtain ⟨g0, g1⟩ := wrd_cells hc hy
        simp only at g0 g1
        have c1 := fun w => C.out y1 y2 s w
        have h3 := cmpK_zero y1 s
        obtain ⟨er, her⟩ : ∃ z, cmpK y1 s = z := ⟨_, rfl⟩
        simp only [her] at c1
        rw [her] at h3
        have hr : Hid (res = (er == 0)) := Lib.hid (by
          rw [← HR.out]
          unfold isAt
          rw [hy]
          simp only
          by_cases e : er = 0
          · rw [decide_eq_true (h3.1 e), e]; rfl
          · rw [decide_eq_false (fun q => e (h3.2 q))]; simp [e])
        have C1 := Lib.hid c1
        clear hc hy h3 her c1
        go_wp2_with fail
        refine (C1.out _).mono ?_
        rintro e w4 ⟨rfl, q4, o4, h4⟩
        have b4 : Below wr.heap.size wr w4 := by rw [h4]; exact xbelow_grows _ _ _
        have B4 := Lib.hid (BW.out.trans (b4.mono BW.out.size))
        clear h4 b4
        go_wp2
        go_ret2
        exact ⟨by rw [hr.out]; rfl, B4.out⟩
      · obtain rfl : hi = n := by omega
        have hr : Hid (res = false) := Lib.hid (by
          rw [← HR.out]
          unfold isAt
          rw [List.getElem?_eq_none (by rw [HN.out]; exact Nat.le_refl _)])
        have i1 : ¬ (hi : Int) < (hi : Int) := by omega
        go_wp2
        go_ret2
        exact ⟨by rw [hr.out]; rfl, BW.out⟩
set_option maxRecDepth 100000 in
set_option maxHeartbeats 4000000 in
theorem xplace_any (u : Value) (l : List Wrd) (s : ByteArray) (w : World) (hu : WRuns w u l) (hl : l.length ≤ 2000000) (hs : SrtW l) :
    Calls Tryd.prog 53 #[u, .string s] w fun e w' => e = .returned (.tuple #[.int .i64 (bgF l s : Nat), .bool (isAt l (bgF l s) s)]) ∧ Below w.heap.size w w' := by
  obtain ⟨A, c, e⟩ := hu.slice
  subst e
  obtain ⟨h1, h2⟩ := bgF_srt hs s
  have c1 := xbsearch_any A l.length c l s w rfl hu hl (bgF l s) (bgF_le l s) h1 h2
  obtain ⟨n, hn⟩ : ∃ n, l.length = n := ⟨_, rfl⟩
  obtain ⟨m, hm⟩ : ∃ m, bgF l s = m := ⟨_, rfl⟩
  rw [hn, hm] at c1
  obtain ⟨st, hst⟩ : ∃ z, isAt l m s = z := ⟨_, rfl⟩
  rw [hst] at c1
  rw [hn, hm, hst]
  have C1 := Lib.hid c1
  clear c1 hn hm hst h1 h2 hu hl hs
  go_enter Tryd.func53, Tryd.ntmps53
  go_wp2_with fail
  refine C1.out.mono ?_
  rintro e w1 ⟨rfl, b1⟩
  have B1 := Lib.hid b1; clear b1
  go_wp2
  go_ret2
  exact ⟨rfl, B1.out⟩
set_option maxRecDepth 100000 in
set_option maxHeartbeats 8000000 in
theorem xfind_any (u : Value) (l : List Wrd) (s : ByteArray) (w : World) (hO : Okw w) (hu : WRuns w u l) (hl : l.length ≤ 2000000) (hz : szW l) :
    Calls Tryd.prog 34 #[u, .string s] w fun e w' => e = .returned (.tuple #[.int .i64 (wfS l s), .int .i64 (wfE l s)]) ∧ Below w.heap.size w w' := by
  have ce := xis_any u l w hO hu hl hz
  by_cases h0 : wisS l = 0
  · obtain ⟨hal, hsr, _⟩ := wisS_facts h0
    have hcb := frB_of hal
    rw [wfS, wfE, if_pos h0, if_pos h0]
    rw [h0] at ce
    have cs := fun w hu => xplace_any u l s w hu hl hsr
    obtain ⟨hf1, hf2⟩ := isAt_frq hsr hcb s
    have hst : isAt l (bgF l s) s = match l[bgF l s]? with | some y => decide (y.1 = s) | none => false := rfl
    obtain ⟨A, c, e⟩ := hu.slice
    subst e
    obtain ⟨n, hn⟩ : ∃ n, l.length = n := ⟨_, rfl⟩
    obtain ⟨m, hm⟩ : ∃ z, bgF l s = z := ⟨_, rfl⟩
    obtain ⟨L0, hL0⟩ : ∃ z, frq l s = z := ⟨_, rfl⟩
    rw [hL0] at hf1 hf2 ⊢
    rw [hm] at hf1 hf2 hst
    simp only [hm] at cs
    obtain ⟨st, hst2⟩ : ∃ z, isAt l m s = z := ⟨_, rfl⟩
    rw [hst2] at hf1 hst
    simp only [hst2] at cs
    obtain ⟨er, her⟩ : ∃ z, (if L0 = 0 then (10 : Int) else 0) = z := ⟨_, rfl⟩
    rw [her]
    rw [hn] at hu ce hl ⊢
    simp only [hn] at cs
    have CE := Lib.hid ce; have HU := Lib.hid hu; have HN := Lib.hid hn; have CS := Lib.hid cs; have HST := Lib.hid hst; have HF1 := Lib.hid hf1; have HF2 := Lib.hid hf2; have HER := Lib.hid her
    clear ce hu hn cs hst hf1 hf2 her hst2 hm hL0 hcb hsr hal h0 hz hO
    go_enter Tryd.func34, Tryd.ntmps34
    go_wp2_with fail
    refine CE.out.mono ?_
    rintro e w1 ⟨rfl, b1⟩
    have U1 := Lib.hid (HU.out.below b1)
    have B1 := Lib.hid b1
    clear b1
    go_wp2_with fail
    refine (CS.out _ U1.out).mono ?_
    rintro e w3 ⟨rfl, b3⟩
    have U3 := Lib.hid (U1.out.below b3)
    have B3 : Hid (Below w.heap.size w w3) := Lib.hid (B1.out.trans (b3.mono B1.out.size))
    clear b3
    cases st
    · have h1 : L0 = 0 := HF1.out (by first | rfl | trivial)
      subst h1
      have e2 : Hid (er = 10) := Lib.hid (by rw [← HER.out]; rfl)
      go_wp2
      go_ret2
      exact ⟨by rw [e2.out]; rfl, B3.out⟩
    · obtain ⟨⟨y1, y2⟩, hy, hsame⟩ : ∃ y, l[m]? = some y ∧ y.1 = s := by
        cases hm : l[m]? with
        | none => have := HST.out; rw [hm] at this; cases this
        | some y => have := HST.out; rw [hm] at this; exact ⟨y, rfl, of_decide_eq_true this.symm⟩
      have hmn : m < n := by have := (List.getElem?_eq_some_iff.1 hy).1; rwa [HN.out] at this
      obtain ⟨hl1, hl2⟩ := HF2.out _ hy hsame
      simp only at hl1
      subst hl1
      have e2 : Hid (er = 0) := Lib.hid (by rw [← HER.out, if_neg hl2])
      obtain ⟨b, o, rfl, _, hc⟩ := U3.out.cells HN.out (by omega)
      obtain ⟨g0, g1⟩ := wrd_cells hc hy
      simp only at g0 g1
      have i1 : (m : Int) < (n : Int) := by omega
      clear hc hy hsame hl2
      go_wp2
      go_ret2
      exact ⟨by rw [e2.out]; rfl, B3.out⟩
  · have h0' : (wisS l == 0) = false := by simpa using h0
    rw [wfS, wfE, if_neg h0, if_neg h0]
    obtain ⟨er, her⟩ : ∃ z, wisS l = z := ⟨_, rfl⟩
    rw [her] at ce h0' ⊢
    have CE := Lib.hid ce
    clear ce hu hz h0 her hO
    go_enter Tryd.func34, Tryd.ntmps34
    go_wp2_with fail
    refine CE.out.mono ?_
    rintro e w1 ⟨rfl, b1⟩
    have B1 := Lib.hid b1; clear b1
    go_wp2
    go_ret2
    exact ⟨rfl, B1.out⟩
end Go.Proofs.YtnjhbblhlgpgdaaDoor
