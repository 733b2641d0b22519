/- Texts that several proofs of this seat share, one behind the other: ZFrz ZAdd. -/
import Derived.Test.YtljaibhhkjapmaaDoorPk7
import Derived.StillTailTactics
import Derived.BigRegion
import Derived.Deep.RegionHeld3
import Derived.Test.YtljaibhhkjapmaaDoorPk10
import Derived.Test.YtljaibhhkjapmaaDoorPk8
/- builder.freeze: the states of the last word's longer beginnings are frozen. -/
namespace Go.Proofs.YtljaibhhkjapmaaDoor
open Go.RowKit Go.Shelf
attribute [local go_sem] Oper.semAt_some
set_option linter.unusedSimpArgs false
set_option linter.unusedVariables false
/-- A rune that a number holds. -/
def R32 (r : Int) : Prop := -2147483648 ≤ r ∧ r ≤ 2147483647
/-- What freezing keeps: which words are told, by the way's first states and what is frozen behind. -/
structure FrI (M B : Nat) (F : List Fz) (R : List Rst) (P : List (Nat × Int)) (s : Nat) (Wd : Rst) : Prop where
  fz : FzOk M F R
  way : WayOk F R P s
  opn : opn R P (rq R s) = Wd
  most : Wd.length ≤ M
  lens : F.length + P.length ≤ B
  tails : ∀ f ∈ F, TlR f.1
  runes : ∀ p ∈ P, R32 p.2
/-- The builder, and what it tells. -/
def BSt (w : World) (q m n0 M B : Nat) (F : List Fz) (R : List Rst) (P : List (Nat × Int)) (s : Nat) (Wd : Rst) : Prop :=
  ∃ k D x vw vf, Bld w q m n0 k D (P ++ [(s, x)]) F vw vf ∧ ViewT D F ∧ k ≤ F.length ∧ FrI M B F R P s Wd
/-- The same within the loop: what stands behind place i is of no matter. -/
def FrL (w wr : World) (q m n0 M B : Nat) (P0 : List (Nat × Int)) (Wd : Rst) (i : Nat) : Prop :=
  ∃ F R k D W vw vf s x, Bld wr q m n0 k D W F vw vf ∧ ViewT D F ∧ k ≤ F.length ∧ W.length = P0.length + 1 ∧ W.take i = P0.take i ∧ W[i]? = some (s, x) ∧ FrI M B F R (P0.take i) s Wd ∧
    (∀ a u, (a :: u) ∈ rq R s → ∃ p, P0[i]? = some p ∧ a ≤ p.2) ∧ BFr q m n0 w wr
theorem FrI.sum {M B : Nat} {F : List Fz} {R : List Rst} {P : List (Nat × Int)} {b s : Nat} {r : Int} {Wd : Rst} (h : FrI M B F R (P ++ [(b, r)]) s Wd) : (rq R b).length + (rq R s).length ≤ M := by
  have h1 := h.opn
  rw [opn_snoc] at h1
  have h2 := opn_len R (rq R b ++ consR r (rq R s)) P
  rw [h1, List.length_append, consR_len] at h2
  have := h.most
  omega
/-- A state is found among the frozen ones. -/
theorem FrI.found {M B : Nat} {F : List Fz} {R : List Rst} {P : List (Nat × Int)} {b s n : Nat} {r : Int} {Wd : Rst} {f : Fz} (h : FrI M B F R (P ++ [(b, r)]) s Wd) (hn : 2 ≤ n) (hf : F[n]? = some f) (e : f.1 = (b, r, s)) :
    FrI M B F R P n Wd ∧ ∀ a u, (a :: u) ∈ rq R n → a ≤ r := by
  obtain ⟨k1, k2, k3, k4, k5⟩ := h.fz.tl n f hn hf
  rw [e] at k5
  have hnl := (List.getElem?_eq_some_iff.1 hf).1
  obtain ⟨s1, s2, s3⟩ := frz_step h.fz h.fz (Nat.le_refl _) (List.prefix_refl _) h.way hnl k5
  have hl := h.lens
  rw [List.length_append] at hl
  exact ⟨⟨h.fz, s1, s2.trans h.opn, h.most, by omega, h.tails, fun p hp => h.runes p (by simp [hp])⟩, s3⟩
/-- A state is laid. -/
theorem FrI.laid {M B : Nat} {F : List Fz} {R : List Rst} {P : List (Nat × Int)} {b s : Nat} {r : Int} {Wd : Rst} (h : FrI M B F R (P ++ [(b, r)]) s Wd) (hB : B ≤ 2000000000) (hno : ∀ (n : Nat) (f : Fz), 2 ≤ n → F[n]? = some f → f.1 ≠ (b, r, s)) {fb fs : Fz} (hfb : F[b]? = some fb) (hfs : F[s]? = some fs) :
    ∃ R', FrI M B (F ++ [((b, r, s), fb.2.1 + fs.2.1, fb.2.2)]) R' P F.length Wd ∧ ∀ a u, (a :: u) ∈ rq R' F.length → a ≤ r := by
  have hbl := h.way.lt (b, r) (by simp)
  have hsl := h.way.sl
  have hs0 := h.way.sp (by simp)
  have hh := h.way.hd (b, r) (by simp)
  obtain ⟨l1, l2⟩ := h.fz.lay hbl hsl hs0 hh hno h.sum hfb hfs
  obtain ⟨s1, s2, s3⟩ := frz_step h.fz l1 (by simp) (List.prefix_append _ _) h.way (n := F.length) (by simp) l2
  have hl := h.lens
  rw [List.length_append] at hl
  have hr := h.runes (b, r) (by simp)
  simp only [List.length_cons, List.length_nil] at hl
  simp only at hbl
  refine ⟨_, ⟨l1, s1, s2.trans h.opn, h.most, by simp; omega, fun f hf => ?_, fun p hp => h.runes p (by simp [hp])⟩, s3⟩
  rcases List.mem_append.1 hf with hf | hf
  · exact h.tails f hf
  · rw [List.mem_singleton] at hf
    subst hf
    exact ⟨by show b ≤ 2000000000; omega, hr.1, hr.2, by show s ≤ 2000000000; omega⟩
theorem frz_words {M B : Nat} {F : List Fz} {R : List Rst} {P : List (Nat × Int)} {b s : Nat} {r : Int} {Wd : Rst} (h : FrI M B F R (P ++ [(b, r)]) s Wd) {fb fs : Fz} (hfb : F[b]? = some fb) (hfs : F[s]? = some fs) : fb.2.1 + fs.2.1 ≤ M := by
  rw [(h.fz.cnt b fb hfb).1, (h.fz.cnt s fs hfs).1]
  exact h.sum

theorem Bld.setMap {w w2 : World} {q m n0 k k2 : Nat} {D D2 : DataW Unit} {W : List (Nat × Int)} {F : List Fz} {vw vf : Value} (h : Bld w q m n0 k D W F vw vf) (hg : w.grownBy w2 (some m)) (hm : TlMap w2 m k2 D2) : Bld w2 q m n0 k2 D2 W F vw vf ∧ BFr q m n0 w w2 := by
  obtain ⟨a1, a2, a3, a4, a5, a6, a7⟩ := h.apart
  exact ⟨⟨h.q0, h.m0, (hg.block q h.lt.1 (fun e => a7 (by cases e; rfl))).trans h.box, h.way.kept hg (.inr a3), h.frz.kept hg (.inr a4), hm⟩, BFr.of_grown hg h.lt.2.2 h.m0 (.inr (.inl rfl))⟩

set_option maxRecDepth 100000 in
set_option maxHeartbeats 8000000 in
theorem freeze_any (q m n0 M B : Nat) (F : List Fz) (R : List Rst) (P0 : List (Nat × Int)) (s0 : Nat) (Wd : Rst) (w : World) (h : BSt w q m n0 M B F R P0 s0 Wd) (hM : M ≤ 2000000) (hB : B ≤ 5000000) (hz : ∀ a u, (a :: u) ∉ rq R s0) (keep : Nat) (hk : keep ≤ P0.length) :
    Calls Tryd.prog 72 #[.pointer (some ⟨q, 0, none⟩), .int .i64 (keep : Int)] w fun e w' => (∃ v, e = .returned v) ∧
      (∃ F' R' s', BSt w' q m n0 M B F' R' (P0.take keep) s' Wd ∧ ∀ a u, (a :: u) ∈ rq R' s' → ∃ p, P0[keep]? = some p ∧ a ≤ p.2) ∧ BFr q m n0 w w' := by
  have h0 : FrL w w q m n0 M B P0 Wd P0.length := by
    obtain ⟨k, D, x, vw, vf, hb, hv, hkl, hf⟩ := h
    refine ⟨F, R, k, D, _, vw, vf, s0, x, hb, hv, hkl, by simp, by simp, by simp, by rw [List.take_length]; exact hf, fun a u hu => absurd hu (hz a u), BFr.refl _ _ _ _⟩
  obtain ⟨np, hnp⟩ : ∃ z, P0.length = z := ⟨_, rfl⟩
  have hnpB : np ≤ 5000000 := by
    obtain ⟨k, D, x, vw, vf, hb, hv, hkl, hf⟩ := h
    have := hf.lens; omega
  rw [hnp] at h0 hk
  have c0 : ∃ A cp, w.cell? ⟨q, 0, none⟩ = some (.slice A (np + 1) cp) := by
    obtain ⟨F1, R1, k, D, W, vw, vf, s, x, hb, _, _, hl, _⟩ := h0
    obtain ⟨A, cp, e⟩ := z_own_slice hb.way
    rw [hl, hnp] at e
    exact ⟨A, cp, by rw [← e]; exact hb.cells.1⟩
  obtain ⟨A0, cp0, c0⟩ := c0
  have hwp : IntKind.i64.wrap (np : Int) = (np : Int) := by rw [IntKind.wrap_i64]; omega
  have H0 := Lib.hid h0; have HNP := Lib.hid hnp
  clear h h0 hnp hz
  go_enter Tryd.func72, Tryd.ntmps72
  go_wp2
  go_step3
  go_wp2
  go_step3
  go_wp2
  go_loopw [4] (fun s4 wr => ∃ i : Nat, s4 = .int .i64 i ∧ keep ≤ i ∧ i ≤ np ∧ Hid (FrL w wr q m n0 M B P0 Wd i)) (fun s4 _ => (RowKit.intOf s4).toNat)
  case atStart => exact ⟨np, rfl, hk, Nat.le_refl _, H0⟩
  case round =>
    obtain ⟨i, rfl, hki, hin, HI⟩ := hrel
    clear H0 c0
    obtain ⟨F1, R1, k, D, W, vw, vf, s, x, hb, hv, hkl, hWl, hWt, hWi, hfr, hhd, hbf⟩ := HI.out
    rw [HNP.out] at hWl
    obtain ⟨g, cap, evw, hg1, hg2, hg3, hg4, _⟩ := z_own_form hb.way (by omega)
    subst evw
    have hway := hb.way
    unfold OpOwn at hway
    rw [hWl] at hb hway hg3
    obtain ⟨c0, c1, c2, c3⟩ := hb.cells
    have cf := c3 0
    by_cases hi : keep < i
    · have i1 : (keep : Int) < (i : Int) := by omega
      obtain ⟨j, rfl⟩ : ∃ j, i = j + 1 := ⟨i - 1, by omega⟩
      obtain ⟨⟨b, r⟩, hp⟩ : ∃ p, P0[j]? = some p := ⟨_, List.getElem?_eq_getElem (by rw [HNP.out]; omega)⟩
      have htk : P0.take (j + 1) = P0.take j ++ [(b, r)] := by rw [List.take_add_one, hp]; rfl
      have hWj : W[j]? = some (b, r) := by
        have := congrArg (fun l => l[j]?) hWt
        simp only [List.getElem?_take] at this
        rw [if_pos (by omega), if_pos (by omega), hp] at this
        exact this
      rw [htk] at hfr
      have e0 := z_own_at op_ln hway (i := 0) hWj rfl
      have e1 := z_own_at op_ln hway (i := 1) hWj rfl
      have e2 := z_own_at op_ln hway (i := 0) hWi rfl
      simp only [Nat.add_zero] at e0 e2
      have i2 : (j : Int) < (np : Int) + 1 := by omega
      have i3 : ((j + 1 : Nat) : Int) < (np : Int) + 1 := by omega
      have i4 : (j : Int) + 1 < (np : Int) + 1 := by omega
      have i5 : (j : Int) < (np : Int) := by omega
      have i6 : (0 : Int) ≤ (j : Int) + 1 := by omega
      have i7 : ((j : Int) + 1).toNat = j + 1 := by omega
      have hwj : IntKind.i64.wrap (j : Int) = (j : Int) := by rw [IntKind.wrap_i64]; omega
      have hbl := hfr.way.lt (b, r) (by simp)
      have hsl := hfr.way.sl
      have hrr := hfr.runes (b, r) (by simp)
      have hlen := hfr.lens
      simp only at hbl
      have htr : TlR (b, r, s) := ⟨by show b ≤ 2000000000; omega, hrr.1, hrr.2, by show s ≤ 2000000000; omega⟩
      obtain ⟨fb, hfb⟩ : ∃ f, F1[b]? = some f := ⟨_, List.getElem?_eq_getElem hbl⟩
      obtain ⟨fs, hfs⟩ : ∃ f, F1[s]? = some f := ⟨_, List.getElem?_eq_getElem hsl⟩
      have HFR := Lib.hid hfr; have HV := Lib.hid hv; have HB := Lib.hid hb; have HTR := Lib.hid htr; have HFB := Lib.hid hfb; have HFS := Lib.hid hfs; have HBF := Lib.hid hbf; have HWJ := Lib.hid hWj; have HWT := Lib.hid hWt; have HPJ := Lib.hid hp; have HWL := Lib.hid hWl; have HTK := Lib.hid htk
      clear hfr hv hb htr hfb hfs hbf hWj hWt hp hWl htk hway hWi HI hhd hrr hbl hsl
      go_wp2
      apply z_region_at (W := (wr.alloc (.cells #[.int .i32 (b : Int), .int .i32 r, .int .i32 (s : Int)] 139)).drew)
      · go_region_held3 (fun wx => wx.cell? ⟨q, 0, none⟩ = some (.slice (some ⟨g, 0, none⟩) (np + 1) cap) ∧ wx.cell? ⟨g, j * 2, none⟩ = some (.int .i32 (b : Int)) ∧ wx.cell? ⟨g, j * 2 + 1, none⟩ = some (.int .i32 r) ∧ wx.cell? ⟨g, (j + 1) * 2, none⟩ = some (.int .i32 (s : Int))) (first | go_keep) (fail)
        all_goals exact ⟨rfl, rfl⟩
      have hal := (bel_one wr (.cells #[.int .i32 (b : Int), .int .i32 r, .int .i32 (s : Int)] 139)).drew
      have a0 := heap_alloc_new wr (.cells #[.int .i32 (b : Int), .int .i32 r, .int .i32 (s : Int)] 139)
      obtain ⟨w2, hw2⟩ : ∃ z, (wr.alloc (.cells #[.int .i32 (b : Int), .int .i32 r, .int .i32 (s : Int)] 139)).drew = z := ⟨_, rfl⟩
      have a1 : w2.heap[wr.heap.size]? = some (.cells #[.int .i32 (b : Int), .int .i32 r, .int .i32 (s : Int)] 139 (0, 0)) := by rw [← hw2]; exact a0
      obtain ⟨pt, hpt⟩ : ∃ z, wr.heap.size = z := ⟨_, rfl⟩
      rw [hw2] at hal ⊢
      rw [hpt] at a1 ⊢
      have t0 : w2.cell? ⟨pt, 0, none⟩ = some (.int .i32 (b : Int)) := by rw [cell_of_row _ _ _ _ _ (0, 0) a1]; rfl
      have t1 : w2.cell? ⟨pt, 1, none⟩ = some (.int .i32 r) := by rw [cell_of_row _ _ _ _ _ (0, 0) a1]; rfl
      have t2 : w2.cell? ⟨pt, 2, none⟩ = some (.int .i32 (s : Int)) := by rw [cell_of_row _ _ _ _ _ (0, 0) a1]; rfl
      have HB2 := Lib.hid (HB.out.below hal)
      have HBF2 : Hid (BFr q m n0 w w2) := Lib.hid (HBF.out.trans (BFr.of_below hal HB.out.lt.2.2))
      obtain ⟨k0, k1, k2, k3⟩ := HB2.out.cells
      have kf := k3 0
      have hway2 : w2.ownsRow n0 136 2 (.slice (some ⟨g, 0, none⟩) (np + 1) cap) (np + 1) (gCells opCell W) := by have := HB2.out.way; unfold OpOwn at this; rw [HWL.out] at this; exact this
      have gf := own_thaw hway2 (j * 2)
      have ge := z_own_at op_ln hway2 (i := 0) HWJ.out rfl
      simp only [Nat.add_zero] at ge
      have HPT : Hid (pt < w2.heap.size ∧ pt ≠ q ∧ pt ≠ g ∧ n0 ≤ pt) := Lib.hid ⟨(Array.getElem?_eq_some_iff.1 a1).1, fun e => by have := HB.out.lt.1; omega, fun e => by have := own_lt' HB.out.way g rfl; omega, by have := HB.out.lt.2.2; omega⟩
      have HPTM : Hid (pt ≠ m) := Lib.hid (fun e => by have := HB.out.lt.2.1; omega)
      have HPTC := Lib.hid a1
      clear hway2 hw2 a0 a1 hpt hal e0 e1 e2 c0 c1 c2 c3 cf HB HBF
      by_cases hex : ∃ n f, 2 ≤ n ∧ F1[n]? = some f ∧ f.1 = (b, r, s)
      · obtain ⟨n, f, hn, hf, e⟩ := hex
        have hlk : ∀ z, (Instr.lookup 143 (.map (some m)) (.agg #[.int .i32 (b : Int), .int .i32 r, .int .i32 (s : Int)]) true).run Tryd.prog (w2.drewN z) = .ok (.tuple #[.int .i32 (n : Int), .bool true]) (w2.drewN z) := fun z => by
          have := TlMap.found (w := w2.drewN z) HB2.out.known HV.out hn hf (by rw [e]; exact HTR.out)
          rw [e] at this
          exact this
        obtain ⟨y1, y2⟩ := HFR.out.found hn hf e
        have HY1 := Lib.hid y1; have HY2 := Lib.hid y2
        have hlk1 := hlk 1
        clear hf e y1 y2
        go_wp2
        go_quiet (fail)
        obtain ⟨w3, hw3⟩ : ∃ z, w2.drewN nq = z := ⟨_, rfl⟩
        have gf3 : w3.frozen? ⟨g, j * 2, none⟩ = false := by rw [← hw3]; exact gf
        have ge3 : w3.cell? ⟨g, j * 2, none⟩ = some (.int .i32 (b : Int)) := by rw [← hw3]; exact ge
        have HB3 : Hid (Bld w3 q m n0 k D W F1 (.slice (some ⟨g, 0, none⟩) (np + 1) cap) vf) := Lib.hid (by rw [← hw3]; exact HB2.out.below (below_draws (Below.refl _ _) nq))
        have HBF3 : Hid (BFr q m n0 w w3) := Lib.hid (by rw [← hw3]; exact HBF2.out.trans (BFr.of_below (below_draws (Below.refl _ _) nq) HB2.out.lt.2.2))
        rw [hw3]
        clear hw3 hlk hlk1 gf ge HB2 HBF2 t0 t1 t2 k0 k1 k2 k3 kf
        obtain ⟨z1, z2⟩ := HB3.out.setOp (i := 0) (u := .int .i32 (n : Int)) (y := (n, r)) HWJ.out (by decide) rfl
        simp only [Nat.add_zero] at z1 z2
        have HZ1 := Lib.hid z1; have HZ2 : Hid (BFr q m n0 w (w3.setCell ⟨g, j * 2, none⟩ (.int .i32 (n : Int)))) := Lib.hid (HBF3.out.trans z2)
        clear z1 z2
        go_wp2
        refine ⟨⟨j, by go_num, by omega, by omega, Lib.hid ⟨F1, R1, k, D, _, _, vf, n, r, HZ1.out, HV.out, hkl, by rw [List.length_set, HWL.out, HNP.out], ?_, ?_, HY1.out, fun a u hu => ⟨_, HPJ.out, HY2.out a u hu⟩, HZ2.out⟩⟩, by simp [RowKit.intOf]⟩
        · have := congrArg (List.take j) HWT.out
          rw [List.take_take, List.take_take, Nat.min_eq_left (by omega)] at this
          rw [List.take_set_of_le (by omega)]
          exact this
        · rw [List.getElem?_set_self (by rw [HWL.out]; omega)]
      · have hno : ∀ (n : Nat) (f : Fz), 2 ≤ n → F1[n]? = some f → f.1 ≠ (b, r, s) := fun n f h1 h2 h3 => hex ⟨n, f, h1, h2, h3⟩
        have hlk : ∀ z, (Instr.lookup 143 (.map (some m)) (.agg #[.int .i32 (b : Int), .int .i32 r, .int .i32 (s : Int)]) true).run Tryd.prog (w2.drewN z) = .ok (.tuple #[.int .i32 0, .bool false]) (w2.drewN z) := fun z => TlMap.gone (w := w2.drewN z) (t := (b, r, s)) HB2.out.known HV.out HTR.out hno
        obtain ⟨R2, y1, y2⟩ := HFR.out.laid (by omega) hno HFB.out HFS.out
        have hsum := frz_words HFR.out HFB.out HFS.out
        have h2F := HFR.out.fz.two
        have hallT := HFR.out.tails
        have hF5 : F1.length ≤ 5000000 := by omega
        have cl := fun w' (hb' : Bld w' q m n0 k D W F1 (.slice (some ⟨g, 0, none⟩) (np + 1) cap) vf) => lay_any q m n0 k D W F1 _ vf w' hb' b s r fb fs HFB.out HFS.out (by omega) hF5
        obtain ⟨N1, hN1⟩ : ∃ z, F1.length = z := ⟨_, rfl⟩
        obtain ⟨nf, hnf⟩ : ∃ z, (((b, r, s), fb.2.1 + fs.2.1, fb.2.2) : Fz) = z := ⟨_, rfl⟩
        rw [hnf] at cl y1
        have hnf1 : nf.1 = (b, r, s) := by rw [← hnf]
        have HY1 := Lib.hid y1; have HY2 := Lib.hid y2; have HNO := Lib.hid hno; have CL := Lib.hid cl; have HN1 := Lib.hid hN1; have HNF := Lib.hid hnf1; have HAT := Lib.hid hallT; have H2F := Lib.hid h2F; have HF5 := Lib.hid hF5
        have HKL := Lib.hid hkl
        have hlk1 := hlk 1
        clear hex hno y1 y2 cl hsum hnf hnf1 hN1 hallT h2F hF5 hkl
        go_wp2
        go_quiet (fail)
        obtain ⟨w3, hw3⟩ : ∃ z, w2.drewN nq = z := ⟨_, rfl⟩
        have HB3 : Hid (Bld w3 q m n0 k D W F1 (.slice (some ⟨g, 0, none⟩) (np + 1) cap) vf) := Lib.hid (by rw [← hw3]; exact HB2.out.below (below_draws (Below.refl _ _) nq))
        have HBF3 : Hid (BFr q m n0 w w3) := Lib.hid (by rw [← hw3]; exact HBF2.out.trans (BFr.of_below (below_draws (Below.refl _ _) nq) HB2.out.lt.2.2))
        have tt0 : w3.cell? ⟨pt, 0, none⟩ = some (.int .i32 (b : Int)) := by rw [← hw3]; exact t0
        have tt1 : w3.cell? ⟨pt, 1, none⟩ = some (.int .i32 r) := by rw [← hw3]; exact t1
        have tt2 : w3.cell? ⟨pt, 2, none⟩ = some (.int .i32 (s : Int)) := by rw [← hw3]; exact t2
        have HP3 : Hid (w3.heap[pt]? = some (.cells #[.int .i32 (b : Int), .int .i32 r, .int .i32 (s : Int)] 139 (0, 0))) := Lib.hid (by rw [← hw3]; exact HPTC.out)
        rw [hw3]
        clear hw3 hlk hlk1 gf ge HB2 HBF2 t0 t1 t2 k0 k1 k2 k3 kf HPTC
        go_wp2_with fail
        refine (CL.out w3 HB3.out).mono ?_
        rintro e w4 ⟨rfl, ⟨vf4, hb4⟩, hf4⟩
        rw [HN1.out]
        have hp4 : w4.heap[pt]? = some (.cells #[.int .i32 (b : Int), .int .i32 r, .int .i32 (s : Int)] 139 (0, 0)) := hf4.keep pt _ HPT.out.2.2.2 HP3.out HPT.out.2.1 HPTM.out (fun cs t fz e => by
          simp only [Obj.cells.injEq] at e
          obtain ⟨_, e, _⟩ := e
          rw [← e]
          exact ⟨by decide, by decide⟩)
        have hway4 : w4.ownsRow n0 136 2 (.slice (some ⟨g, 0, none⟩) (np + 1) cap) (np + 1) (gCells opCell W) := by have := hb4.way; unfold OpOwn at this; rw [HWL.out] at this; exact this
        have gf := own_thaw hway4 (j * 2)
        have ge := z_own_at op_ln hway4 (i := 0) HWJ.out rfl
        simp only [Nat.add_zero] at ge
        obtain ⟨z1, z2⟩ := hb4.setOp (i := 0) (u := .int .i32 (N1 : Int)) (y := (N1, r)) HWJ.out (by decide) rfl
        simp only [Nat.add_zero] at z1 z2
        have hp5 : (w4.setCell ⟨g, j * 2, none⟩ (.int .i32 (N1 : Int))).heap[pt]? = _ := (Below.heap_setCell w4 _ _ pt HPT.out.2.2.1).trans hp4
        have HZ1 := Lib.hid z1; have HZ2 : Hid (BFr q m n0 w (w4.setCell ⟨g, j * 2, none⟩ (.int .i32 (N1 : Int)))) := Lib.hid ((HBF3.out.trans hf4).trans z2)
        have HP5 := Lib.hid hp5
        clear z1 z2 hp4 hway4 hb4 hf4 tt0 tt1 tt2 HB3 HBF3 HP3 hp5 CL
        go_wp2
        obtain ⟨w5, hw5⟩ : ∃ z, w4.setCell ⟨g, j * 2, none⟩ (.int .i32 (N1 : Int)) = z := ⟨_, rfl⟩
        rw [hw5] at HZ1 HZ2 HP5 ⊢
        clear hw5 gf ge
        have hp5 := HP5.out
        have t0 : w5.cell? ⟨pt, 0, none⟩ = some (.int .i32 (b : Int)) := by rw [cell_of_row _ _ _ _ _ (0, 0) hp5]; rfl
        have t1 : w5.cell? ⟨pt, 1, none⟩ = some (.int .i32 r) := by rw [cell_of_row _ _ _ _ _ (0, 0) hp5]; rfl
        have t2 : w5.cell? ⟨pt, 2, none⟩ = some (.int .i32 (s : Int)) := by rw [cell_of_row _ _ _ _ _ (0, 0) hp5]; rfl
        obtain ⟨k0, k1, k2, k3⟩ := HZ1.out.cells
        have hway5 : w5.ownsRow n0 136 2 (.slice (some ⟨g, 0, none⟩) (np + 1) cap) (np + 1) (gCells opCell (W.set j (N1, r))) := by have := HZ1.out.way; unfold OpOwn at this; rw [List.length_set, HWL.out] at this; exact this
        have ge := z_own_at op_ln hway5 (i := 0) (j := j) (x := (N1, r)) (List.getElem?_set_self (by rw [HWL.out]; omega)) rfl
        simp only [Nat.add_zero] at ge
        clear hp5 hway5 HP5
        go_still_tail 9, (by kernel_rfl)
        change wpList _ _ _ _ _ w5.drew
        obtain ⟨w6, D6, hrun, r1, r2, r3⟩ := TlMap.set (w := w5.drew) (f := nf) HZ1.out.known HV.out (by have := HKL.out; have := HF5.out; omega) (by have := HF5.out; omega) H2F.out HAT.out (by rw [HNF.out]; exact HTR.out) (by rw [HNF.out]; exact HNO.out)
        rw [HNF.out, HN1.out] at hrun
        have hb6 := (HZ1.out.below (Below.refl _ _).drew : Bld w5.drew q m n0 k D (W.set j (N1, r)) (F1 ++ [nf]) (.slice (some ⟨g, 0, none⟩) (np + 1) cap) vf4)
        obtain ⟨z1, z2⟩ := hb6.setMap r3 r1
        have HZ3 := Lib.hid z1; have HZ4 : Hid (BFr q m n0 w w6) := Lib.hid ((HZ2.out.trans (BFr.of_below (Below.refl _ _).drew HZ1.out.lt.2.2)).trans z2)
        have HR2 := Lib.hid r2
        clear z1 z2 r1 r2 r3 hb6
        go_wp2
        refine ⟨⟨j, by go_num, by omega, by omega, Lib.hid ⟨F1 ++ [nf], R2, k + 1, D6, _, _, vf4, N1, r, HZ3.out, HR2.out, by have := HKL.out; simp; exact this, by rw [List.length_set, HWL.out, HNP.out], ?_, ?_, by rw [← HN1.out]; exact HY1.out, fun a u hu => ⟨_, HPJ.out, HY2.out a u (by rw [HN1.out]; exact hu)⟩, HZ4.out⟩⟩, by simp [RowKit.intOf]⟩
        · have := congrArg (List.take j) HWT.out
          rw [List.take_take, List.take_take, Nat.min_eq_left (by omega)] at this
          rw [List.take_set_of_le (by omega)]
          exact this
        · rw [List.getElem?_set_self (by rw [HWL.out]; omega)]
    · obtain rfl : i = keep := by omega
      have i1 : ¬ (i : Int) < (i : Int) := by omega
      have i2 : (i : Int) + 1 ≤ (cap : Int) := by omega
      have hwk : IntKind.i64.wrap ((i : Int) + 1) = (i : Int) + 1 := by rw [IntKind.wrap_i64]; omega
      have hfront := z_own_front hway (i + 1) (by omega)
      rw [z_gtake op_ln W (i + 1) (by omega)] at hfront
      have hWe : W.take (i + 1) = P0.take i ++ [(s, x)] := by rw [List.take_add_one, hWt, hWi]; rfl
      rw [hWe] at hfront
      have z1 := hb.setWay (v2 := .slice (some ⟨g, 0, none⟩) (i + 1) cap) (W2 := P0.take i ++ [(s, x)]) (by unfold OpOwn; rw [List.length_append, List.length_take, HNP.out, Nat.min_eq_left hin]; exact hfront)
      have z2 := hbf.trans (hb.frSet 0 (.slice (some ⟨g, 0, none⟩) (i + 1) cap))
      have HZ1 := Lib.hid z1; have HZ2 := Lib.hid z2; have HFR := Lib.hid hfr; have HV := Lib.hid hv; have HHD := Lib.hid hhd
      clear z1 z2 hfr hv hhd hfront hway hWe hWt hWi hb hbf HI
      go_wp2
      go_end0
      exact ⟨⟨_, rfl⟩, ⟨F1, R1, s, ⟨k, D, x, _, vf, HZ1.out, HV.out, hkl, HFR.out⟩, HHD.out⟩, HZ2.out⟩
end Go.Proofs.YtljaibhhkjapmaaDoor

/- builder.add: the states of a word are opened. -/
namespace Go.Proofs.YtljaibhhkjapmaaDoor
open Go.RowKit Go.Shelf
attribute [local go_sem] Oper.semAt_some
set_option linter.unusedSimpArgs false
set_option linter.unusedVariables false

/-- What is opened for the rest of a word. -/
def opP (s : Nat) (a : Int) (t : List Int) : List (Nat × Int) := (s, a) :: t.map (fun r => (0, r))
theorem opP_len (s : Nat) (a : Int) (t : List Int) : (opP s a t).length = t.length + 1 := by simp [opP]
theorem opP_at {s : Nat} {a r : Int} {t : List Int} {k : Nat} (h : (a :: t)[k]? = some r) : (opP s a t)[k]? = some (if k = 0 then s else 0, r) := by
  cases k with
  | zero => simp at h; simp [opP, h]
  | succ k => simp only [opP, List.getElem?_cons_succ] at h ⊢; rw [List.getElem?_map, h]; simp
theorem set_last {α : Type} (l : List α) (x y : α) : (l ++ [x]).set l.length y = l ++ [y] := by
  rw [List.set_append_right _ _ (Nat.le_refl _), Nat.sub_self]; rfl
theorem own_lenW {w : World} {q m n0 k : Nat} {D : DataW Unit} {W : List (Nat × Int)} {F : List Fz} {vw vf : Value} (h : Bld w q m n0 k D W F vw vf) {n : Nat} (hn : W.length = n + 1) : ∃ g cap, vw = .slice (some ⟨g, 0, none⟩) (n + 1) cap ∧ w.ownsRow n0 136 2 (.slice (some ⟨g, 0, none⟩) (n + 1) cap) (n + 1) (gCells opCell W) ∧ g < w.heap.size := by
  have hw := h.way
  unfold OpOwn at hw
  rw [hn] at hw
  obtain ⟨g, cap, e, h1, h2, h3, h4, _⟩ := z_own_form hw (by omega)
  subst e
  exact ⟨g, cap, rfl, hw, h2⟩

/-- Another row is kept by what the builder keeps. -/
theorem BFr.own {A B : World} {q m n0 k nv size n : Nat} {D : DataW Unit} {W : List (Nat × Int)} {F : List Fz} {vw vf v : Value} {T : TypeId} {xs : List Value} (hf : BFr q m n0 A B) (hb : Bld A q m n0 k D W F vw vf) (h : A.ownsRow nv T size v n xs) (hn : n0 ≤ nv)
    (h1 : T ≠ 136) (h2 : T ≠ 141) (h3 : T ≠ 145) : B.ownsRow nv T size v n xs := by
  obtain ⟨hl, hv⟩ := h
  rcases hv with ⟨rfl, h0⟩ | ⟨g, cap, cur, rfl, hg, hh, r1, r2, r3, r4⟩
  · exact ⟨hl, .inl ⟨rfl, h0⟩⟩
  · refine ⟨hl, .inr ⟨g, cap, cur, rfl, hg, hf.keep g _ (by omega) hh (fun e => ?_) (fun e => ?_) (fun cs t fz e => ?_), r1, r2, r3, r4⟩⟩
    · subst e
      rw [hb.box] at hh
      simp only [Option.some.injEq, Obj.cells.injEq] at hh
      exact h3 hh.2.1.symm
    · subst e
      obtain ⟨es, ck, hm, _⟩ := hb.known
      rw [hm] at hh
      simp at hh
    · simp only [Obj.cells.injEq] at e
      obtain ⟨_, e, _⟩ := e
      rw [← e]
      exact ⟨h1, h2⟩

set_option maxRecDepth 100000 in
set_option maxHeartbeats 8000000 in
theorem add_any (q m n0 M B : Nat) (F : List Fz) (R : List Rst) (P0 : List (Nat × Int)) (s0 : Nat) (Wd : Rst) (w : World) (h : BSt w q m n0 M B F R P0 s0 Wd) (hM : M ≤ 2000000) (hz : ∀ a u, (a :: u) ∉ rq R s0) (v : Value) (l : List Int) (nv : Nat) (hov : w.ownsRow nv 21 1 v l.length (l.map (Value.int .i32))) (hnv : n0 ≤ nv) (hl : l.length ≤ 1000) (hB : B + l.length ≤ 5000000) (hr : ∀ r ∈ l, R32 r) (hlt : P0.map (·.2) < l) (hWM : Wd.length + 1 ≤ M) :
    Calls Tryd.prog 71 #[.pointer (some ⟨q, 0, none⟩), v] w fun e w' => (∃ v, e = .returned v) ∧
      (∃ F' R' P', BSt w' q m n0 M (B + l.length) F' R' P' 1 (Wd ++ [l]) ∧ P'.map (·.2) = l) ∧ BFr q m n0 w w' := by
  have hv : Runs w v l := Runs.of_own hov
  obtain ⟨a, t, hdr, hnx⟩ := alk_next _ _ hlt
  obtain ⟨keep, hkeep⟩ : ∃ z, alk l (P0.map (·.2)) = z := ⟨_, rfl⟩
  have hkl := alk_le l (P0.map (·.2))
  have hat := alk_take l (P0.map (·.2))
  rw [hkeep] at hdr hnx hkl hat
  rw [List.length_map] at hkl
  have hP5 : P0.length ≤ 5000000 ∧ B ≤ 5000000 := by
    obtain ⟨k, D, x, vw, vf, hb, hv2, hkl2, hf⟩ := h
    have h2 := hf.lens
    omega
  have ca : Calls Tryd.prog 98 #[.pointer (some ⟨q, 0, none⟩), v] w fun e w' => e = .returned (.int .i64 (keep : Int)) ∧ Below w.heap.size w w' := by
    obtain ⟨k, D, x, vw, vf, hb, hv2, hkl2, hf⟩ := h
    have := alike_any q m n0 k D P0 (s0, x) F vw vf v l w hb hv (by omega) hP5.1
    rw [hkeep] at this
    exact this
  have cf := fun w' (hb : Below w.heap.size w w') => freeze_any q m n0 M B F R P0 s0 Wd w' (by
    obtain ⟨k, D, x, vw, vf, hb2, hv2, hkl2, hf⟩ := h
    exact ⟨k, D, x, vw, vf, hb2.below hb, hv2, hkl2, hf⟩) hM hP5.2 hz keep hkl.2
  have hn0 : n0 ≤ w.heap.size := by
    obtain ⟨k, D, x, vw, vf, hb, _⟩ := h
    exact hb.lt.2.2
  obtain ⟨A, c, ev⟩ : ∃ A c, v = .slice A l.length c := by obtain ⟨A, c, e, _⟩ := hv; exact ⟨A, c, e⟩
  subst ev
  obtain ⟨n, hn⟩ : ∃ z, l.length = z := ⟨_, rfl⟩
  have htn : t.length + 1 + keep = n := by
    have := congrArg List.length hdr
    rw [List.length_drop, List.length_cons, hn] at this
    omega
  rw [hn] at hov hv hl hB hkl ca ⊢
  have hcut : ∃ b o, A = some ⟨b, o, none⟩ ∧ n ≤ c := by
    obtain ⟨A', c', e, hc, _, hx⟩ := hv
    obtain ⟨b, o, e2, _⟩ := hx (by omega)
    rw [hn] at e hc
    obtain ⟨rfl, _, rfl⟩ := Value.slice.inj e
    exact ⟨b, o, e2, hc⟩
  obtain ⟨vb, vo, rfl, hnc⟩ := hcut
  have HOV := Lib.hid hov
  have HBW : Hid (∃ k D W vw vf, Bld w q m n0 k D W F vw vf) := Lib.hid (by obtain ⟨k, D, x, vw, vf, hb, _⟩ := h; exact ⟨k, D, _, vw, vf, hb⟩)
  have CA := Lib.hid ca; have CF := Lib.hid cf; have HV := Lib.hid hv; have HDR := Lib.hid hdr; have HNX := Lib.hid hnx; have HAT := Lib.hid hat; have HN := Lib.hid hn; have HR := Lib.hid hr; have HKL := Lib.hid hkl
  clear hov ca cf hv hdr hnx hat hn hr h hlt hz hkeep hP5 hkl
  have i1 : (keep : Int) ≤ (n : Int) := by omega
  go_enter Tryd.func71, Tryd.ntmps71
  go_wp2_with fail
  refine CA.out.mono ?_
  rintro e w1 ⟨rfl, b1⟩
  have cf1 := CF.out w1 b1
  have HV1 := Lib.hid (HV.out.below b1)
  have HOV1 := Lib.hid (z_own_below HOV.out b1)
  have HBW1 : Hid (∃ k D W vw vf, Bld w1 q m n0 k D W F vw vf) := Lib.hid (by obtain ⟨k, D, W, vw, vf, hb⟩ := HBW.out; exact ⟨k, D, W, vw, vf, hb.below b1⟩)
  have F1 : Hid (BFr q m n0 w w1) := Lib.hid (BFr.of_below b1 hn0)
  clear b1 CA CF HV HOV HBW
  go_wp2_with fail
  refine cf1.mono ?_
  rintro e w2 ⟨⟨v2, rfl⟩, ⟨F2, R2, s2, hb2, hh2⟩, f2⟩
  obtain ⟨k, D, x, vw, vf, hb3, hvw, hkf, hfr⟩ := hb2
  have hhd : HdLt (rq R2 s2) a := fun a' u hu => by
    obtain ⟨p, hp, hle⟩ := hh2 a' u hu
    have := HNX.out p.2 (by rw [List.getElem?_map, hp]; rfl)
    omega
  have hwo := way_open hfr.fz hfr.way hfr.opn (a := a) (v := t) hhd
  have hPl : (P0.take keep).map (·.2) = l.take keep := by rw [List.map_take]; exact HAT.out.symm
  have hkp : (P0.take keep).length = keep := by rw [List.length_take]; exact Nat.min_eq_left HKL.out.2
  rw [hPl, ← HDR.out, List.take_append_drop] at hwo
  have hruns : ∀ p ∈ P0.take keep ++ opP s2 a t, R32 p.2 := fun p hp => by
    rcases List.mem_append.1 hp with hp | hp
    · exact hfr.runes p hp
    · rcases List.mem_cons.1 hp with rfl | hp
      · exact HR.out a (List.mem_of_mem_drop (i := keep) (by rw [HDR.out]; simp))
      · obtain ⟨r, hr, rfl⟩ := List.mem_map.1 hp
        exact HR.out r (List.mem_of_mem_drop (i := keep) (by rw [HDR.out]; simp [hr]))
  have hlens := hfr.lens
  rw [hkp] at hlens
  have hmap : (P0.take keep ++ opP s2 a t).map (·.2) = l := by
    rw [List.map_append, hPl]
    have : (opP s2 a t).map (·.2) = a :: t := by simp [opP, Function.comp_def]
    rw [this, ← HDR.out, List.take_append_drop]
  have HFI : Hid (FrI M (B + n) F2 R2 (P0.take keep ++ opP s2 a t) 1 (Wd ++ [l])) := Lib.hid ⟨hfr.fz, hwo.1, hwo.2, by rw [List.length_append]; simpa using hWM, by rw [List.length_append, opP_len, hkp]; omega, hfr.tails, hruns⟩
  obtain ⟨PA, hPA⟩ : ∃ z, P0.take keep = z := ⟨_, rfl⟩
  obtain ⟨PP, hPP⟩ : ∃ z, opP s2 a t = z := ⟨_, rfl⟩
  have hPPl : PP.length = t.length + 1 := by rw [← hPP]; exact opP_len _ _ _
  obtain ⟨L, hL⟩ : ∃ z, t.length + 1 = z := ⟨_, rfl⟩
  have hPat : ∀ (i : Nat) (r : Int), l[keep + i]? = some r → PP[i]? = some (if i = 0 then s2 else 0, r) := fun i r h => by
    rw [← List.getElem?_drop, HDR.out] at h
    rw [← hPP]; exact opP_at h
  rw [hPA] at hkp hb3 hmap HFI
  rw [hPP] at hmap HFI
  rw [hL] at hPPl htn
  have HMAP := Lib.hid hmap; have HPAT := Lib.hid hPat; have HPPL := Lib.hid hPPl; have HKP := Lib.hid hkp; have HVW := Lib.hid hvw; have HHF := Lib.hid hkf; have HB3 := Lib.hid hb3
  have F2' : Hid (BFr q m n0 w w2) := Lib.hid (F1.out.trans f2)
  have HOV2 : Hid (w2.ownsRow nv 21 1 (.slice (some ⟨vb, vo, none⟩) n c) n (l.map (Value.int .i32))) := Lib.hid (by
    obtain ⟨k9, D9, W9, vw9, vf9, hb9⟩ := HBW1.out
    exact f2.own hb9 HOV1.out hnv (by decide) (by decide) (by decide))
  obtain ⟨hsl1, _⟩ := slice_l32 (Runs.of_own HOV2.out) HN.out keep (by omega)
  have hcut : cutA (some ⟨vb, vo, none⟩) c keep = some ⟨vb, vo + keep, none⟩ := by
    unfold cutA
    rw [if_neg (by omega), Nat.mul_one]
    simp [Addr.add]
  have hnL : n - keep = L := by omega
  rw [hcut, hnL] at hsl1
  clear hcut hnL
  have HB3' : Hid (Bld w2 q m n0 k D (PA ++ [(s2, x)]) F2 vw vf) := HB3
  have hW0 : Hid (Bld w2 q m n0 k D (PA ++ PP.take 0 ++ [(if (0 : Nat) = 0 then s2 else 0, x)]) F2 vw vf) := Lib.hid (by simpa using HB3.out)
  clear hhd hwo hPl hruns hlens hmap hPA hPP hPat hkp hPPl hvw hkf hfr hb3 cf1 HNX HAT HDR HR HKL F1 f2 hh2 hWM hM HB3 HBW1 HOV1 HV1
  go_wp2
  clear hsl1
  go_loopw [17] (fun s17 wr => ∃ (i : Nat) (x' : Int) (vw' : Value), s17 = .int .i64 i ∧ i ≤ L ∧ Hid (Bld wr q m n0 k D (PA ++ PP.take i ++ [(if i = 0 then s2 else 0, x')]) F2 vw' vf) ∧ Hid (BFr q m n0 w2 wr)) (fun s17 _ => L - (RowKit.intOf s17).toNat)
  case atStart => exact ⟨0, x, vw, rfl, Nat.zero_le _, hW0, Lib.hid (BFr.refl _ _ _ _)⟩
  case round =>
    obtain ⟨i, x', vw', rfl, hiL, HB, HF⟩ := hrel
    have hWl : (PA ++ PP.take i ++ [(if i = 0 then s2 else 0, x')]).length = keep + i + 1 := by
      rw [List.length_append, List.length_append, List.length_take, HPPL.out, HKP.out, Nat.min_eq_left hiL]; rfl
    have hWl2 : (PA ++ PP.take i).length = keep + i := by
      rw [List.length_append, List.length_take, HPPL.out, HKP.out, Nat.min_eq_left hiL]
    obtain ⟨KI, hKI⟩ : ∃ z, keep + i = z := ⟨_, rfl⟩
    have hkb : KI ≤ 2000 := by omega
    rw [hKI] at hWl hWl2
    obtain ⟨g, cap, evw, hway, hgl⟩ := own_lenW HB.out hWl
    subst evw
    obtain ⟨c0, c1, c2, c3⟩ := HB.out.cells
    have hwk : IntKind.i64.wrap (KI : Int) = (KI : Int) := by rw [IntKind.wrap_i64]; omega
    have j1 : (KI : Int) < (KI : Int) + 1 := by omega
    have j2 : (0 : Int) ≤ (KI : Int) := by omega
    by_cases hi : i < L
    · have i2 : (i : Int) < (L : Int) := by omega
      obtain ⟨r, hr⟩ : ∃ r, l[keep + i]? = some r := ⟨_, List.getElem?_eq_getElem (by rw [HN.out]; omega)⟩
      have hpp := HPAT.out i r hr
      have hov : wr.ownsRow nv 21 1 (.slice (some ⟨vb, vo, none⟩) n c) n (l.map (Value.int .i32)) := HF.out.own HB3'.out HOV2.out hnv (by decide) (by decide) (by decide)
      obtain ⟨b9, o9, e9, _, d0⟩ := z_run_cell (Runs.of_own hov) HN.out hr
      simp only [Option.some.injEq, Addr.mk.injEq] at e9
      obtain ⟨rfl, rfl, _⟩ := e9
      rw [← Nat.add_assoc] at d0
      obtain ⟨so, hso⟩ : ∃ z, (if i = 0 then s2 else 0) = z := ⟨_, rfl⟩
      rw [hso] at hpp HB hway hWl
      have hWk : (PA ++ PP.take i ++ [(so, x')])[KI]? = some (so, x') := by rw [← hWl2]; simp
      obtain ⟨z1, z2⟩ := (HB.out.below (Below.refl _ _).drew : Bld wr.drew q m n0 k D (PA ++ PP.take i ++ [(so, x')]) F2 (.slice (some ⟨g, 0, none⟩) (KI + 1) cap) vf).setOp (i := 1) (u := .int .i32 r) (y := (so, r)) hWk (by decide) rfl
      have hset : (PA ++ PP.take i ++ [(so, x')]).set KI (so, r) = PA ++ PP.take (i + 1) := by
        have := set_last (PA ++ PP.take i) (so, x') (so, r)
        rw [hWl2] at this
        rw [this, List.take_add_one, hpp]
        simp
      rw [hset] at z1
      have gf := own_thaw hway (KI * 2 + 1)
      have ge := z_own_at op_ln hway (i := 1) hWk rfl
      have hwn2 : (PA ++ PP.take (i + 1)).length = KI + 1 := by rw [← hset, List.length_set]; exact hWl
      have HZ1 := Lib.hid z1; have HZ2 : Hid (BFr q m n0 w2 (wr.drew.setCell ⟨g, KI * 2 + 1, none⟩ (.int .i32 r))) := Lib.hid ((HF.out.trans (BFr.of_below (Below.refl _ _).drew HB.out.lt.2.2)).trans z2)
      have HWN := Lib.hid hwn2; have HKI := Lib.hid hKI
      have HGF := Lib.hid gf; have HGE := Lib.hid ge
      clear z1 z2 hset hWk hpp hr hov hway hwn2 hWl hWl2 hso HB HF hKI gf ge
      go_wp2
      go_still_tail 11, (by kernel_rfl)
      change wpList _ _ _ _ _ wr.drew
      obtain ⟨wd, hwd⟩ : ∃ z, wr.drew = z := ⟨_, rfl⟩
      have gf : wd.frozen? ⟨g, KI * 2 + 1, none⟩ = false := by rw [← hwd]; exact HGF.out
      have ge : wd.cell? ⟨g, KI * 2 + 1, none⟩ = some (.int .i32 x') := by rw [← hwd]; exact HGE.out
      rw [hwd] at HZ1 HZ2 ⊢
      clear hwd d0 c0 c1 c2 c3 HGF HGE
      have hz1 := HZ1.out
      obtain ⟨g', cap', eg, hway4, hgl4⟩ := own_lenW hz1 HWN.out
      simp only [Value.slice.injEq, Option.some.injEq, Addr.mk.injEq] at eg
      obtain ⟨⟨rfl, _⟩, _, rfl⟩ := eg
      obtain ⟨v', w5, hrun, hown5, hgr5, hblk5⟩ := append_one (P := Tryd.prog) op_ln op_one info_op rfl (by decide) (by decide) Tryd.underlying137 _ n0 _ (KI + 1) _ hway4 (0, 0) hz1.lt.2.2 (by omega)
      have hpush := hz1.pushWay _ hgr5 (W2 := PA ++ PP.take (i + 1) ++ [(0, 0)]) (by unfold OpOwn; rw [List.length_append, HWN.out, gCells_snoc]; exact hown5)
      obtain ⟨a1, a2, a3, a4, a5, a6, a7⟩ := hz1.apart
      have hbx5 : w5.heap[q]? = some (.cells #[.slice (some ⟨g, 0, none⟩) (KI + 1) cap, vf, .map (some m)] 145) := (hgr5.block q (by have := hz1.lt.1; simp at this ⊢; omega) (fun e => a1 e.symm)).trans ((Below.heap_alloc _ _ _ hz1.lt.1).trans hz1.box)
      have g1 : w5.cell? ⟨q, 0, none⟩ = some (.slice (some ⟨g, 0, none⟩) (KI + 1) cap) := by rw [cell_of_row _ _ _ _ _ (0, 0) hbx5]; rfl
      have g2 : w5.frozen? ⟨q, 0, none⟩ = false := by simp [World.frozen?, hbx5]
      have c0 := hz1.cells.1
      have hsz : (wd.setCell ⟨g, KI * 2 + 1, none⟩ (.int .i32 r)).heap.size = wd.heap.size := by simp
      rw [hsz] at hrun
      obtain ⟨A5, m5, e5⟩ := z_own_slice hown5
      subst e5
      have HRUN := Lib.hid hrun
      have HP1 := Lib.hid hpush.1; have HP2 : Hid (BFr q m n0 w2 (w5.setCell ⟨q, 0, none⟩ (.slice A5 (KI + 1 + 1) m5))) := Lib.hid (HZ2.out.trans hpush.2)
      clear hz1 hway4 hrun hown5 hgr5 hblk5 hpush a1 a2 a3 a4 a5 a6 a7 hbx5 HZ1 HZ2 hgl4 hsz
      go_wp2_with (at_builtin; refine wpList_append_run (.tmp 38) (.tmp 40) 137 _ _ _ _ HRUN.out rfl rfl rfl rfl ?_)
      exact ⟨⟨i + 1, 0, _, by go_num, by omega, Lib.hid (by simpa using HP1.out), HP2⟩, by simp [RowKit.intOf]; omega⟩
    · obtain rfl : i = L := by omega
      have i2 : ¬ (i : Int) < (i : Int) := by omega
      have hPPi : PP.take i = PP := List.take_of_length_le (by rw [HPPL.out]; exact Nat.le_refl _)
      obtain ⟨so, hso⟩ : ∃ z, (if i = 0 then s2 else 0) = z := ⟨_, rfl⟩
      rw [hso, hPPi] at HB hway hWl
      rw [hPPi] at hWl2
      have hWk : (PA ++ PP ++ [(so, x')])[KI]? = some (so, x') := by rw [← hWl2]; simp
      obtain ⟨z1, z2⟩ := (HB.out.below (Below.refl _ _).drew : Bld wr.drew q m n0 k D (PA ++ PP ++ [(so, x')]) F2 (.slice (some ⟨g, 0, none⟩) (KI + 1) cap) vf).setOp (i := 0) (u := .int .i32 1) (y := (1, x')) hWk (by decide) rfl
      have hset : (PA ++ PP ++ [(so, x')]).set KI (1, x') = PA ++ PP ++ [(1, x')] := by
        have := set_last (PA ++ PP) (so, x') (1, x')
        rw [hWl2] at this
        exact this
      rw [hset] at z1
      simp only [Nat.add_zero] at z1 z2
      have gf := own_thaw hway (KI * 2)
      have ge := z_own_at op_ln hway (i := 0) hWk rfl
      simp only [Nat.add_zero] at ge
      have HZ1 := Lib.hid z1; have HZ2 : Hid (BFr q m n0 w (wr.drew.setCell ⟨g, KI * 2, none⟩ (.int .i32 1))) := Lib.hid ((F2'.out.trans (HF.out.trans (BFr.of_below (Below.refl _ _).drew HB.out.lt.2.2))).trans z2)
      have HGF := Lib.hid gf; have HGE := Lib.hid ge
      clear z1 z2 hset hWk hway hWl hWl2 hso HB HF gf ge hPPi hW0
      go_wp2
      go_still_tail 10, (by kernel_rfl)
      change wpList _ _ _ _ _ wr.drew
      obtain ⟨wd, hwd⟩ : ∃ z, wr.drew = z := ⟨_, rfl⟩
      have gf : wd.frozen? ⟨g, KI * 2, none⟩ = false := by rw [← hwd]; exact HGF.out
      have ge : wd.cell? ⟨g, KI * 2, none⟩ = some (.int .i32 (so : Int)) := by rw [← hwd]; exact HGE.out
      rw [hwd] at HZ1 HZ2 ⊢
      clear hwd c0 c1 c2 c3 HGF HGE
      go_wp2
      go_end0
      exact ⟨⟨_, rfl⟩, ⟨F2, R2, PA ++ PP, ⟨k, D, x', _, vf, HZ1.out, HVW.out, HHF.out, HFI.out⟩, HMAP.out⟩, HZ2.out⟩
end Go.Proofs.YtljaibhhkjapmaaDoor

