/- Texts that several proofs of this seat share, one behind the other: ZSpl ZPlace ZWord. -/
import Derived.Test.YtnjhbblhlgpgdaaDoorPk12
import Derived.Test.YtnjhbblhlgpgdaaDoorPk17
import Derived.Test.YtnjhbblhlgpgdaaDoorPk2
import Derived.Test.YtnjhbblhlgpgdaaDoorPk3
/- Dawg.spell: the runes of the word at a place. -/
namespace Go.Proofs.YtnjhbblhlgpgdaaDoor
open Go.RowKit Go.Shelf Go.Lib
attribute [local go_sem] Oper.semAt_some
set_option linter.unusedSimpArgs false
set_option linter.unusedVariables false

theorem z_wrap_small (t : Nat) (h : t ≤ 6000000) : IntKind.i64.wrap (t : Int) = (t : Int) := by rw [IntKind.wrap_i64]; omega
theorem z_wrap_sub (iz : Int) (ia ah ib : Nat) (h : iz = (ia : Int)) (h2 : ah ≤ ia ∧ ia - ah = ib) (h3 : ia ≤ 65536) : IntKind.i32.wrap (iz - (ah : Int)) = (ib : Int) := by rw [IntKind.wrap_i32]; omega
def rnCell (r : Int) : List Value := [.int .i32 r]
theorem rn_ln (x : Int) : (rnCell x).length = 1 := rfl
theorem rn_one (x : Int) : ∀ u ∈ rnCell x, u.oneCell' = true := by
  intro u hu
  simp only [rnCell, List.mem_cons, List.mem_nil_iff, or_false] at hu
  subst hu; rfl
theorem rn_cells : ∀ l : List Int, gCells rnCell l = l.map (Value.int .i32)
  | [] => rfl
  | a :: l => by
    show rnCell a ++ gCells rnCell l = _
    rw [rn_cells l]; rfl
theorem stCell_ok (Q : List Rst) (s : Nat) : (stCell (staL Q s)).toArray = #[.int .i32 ((staL Q s).1 : Int), .int .i32 ((staL Q s).2.1 : Int), .bool (staL Q s).2.2] := rfl
/-- How long a row is that a value tells. -/
def zsl : Value → Nat
  | .slice _ n _ => n
  | _ => 0

set_option maxRecDepth 100000 in
set_option maxHeartbeats 16000000 in
theorem spelld_any (w : World) (d : Nat) (L : List Wrd) (W : Rst) (hW : W.Pairwise (· < ·)) (Q : List Rst) (hQ : staQ W = Q) (h : DgAt w d Q L) (hk : DgOk Q L) (hWl : W.length ≤ 65536) (l : List Int) (hl64 : l.length ≤ 64) (i : Nat) (hi : W[i]? = some l) :
    Calls Tryd.prog 49 #[.pointer (some ⟨d, 0, none⟩), .int .i32 (i : Int)] w fun e w' => ∃ v, e = .returned v ∧ w'.ownsRow w.heap.size 21 1 v l.length (l.map (Value.int .i32)) ∧ Below w.heap.size w w' := by
  obtain ⟨n1, hn1⟩ : ∃ z, w.heap.size = z := ⟨_, rfl⟩
  obtain ⟨n, hn⟩ : ∃ z, l.length = z := ⟨_, rfl⟩
  have hq0 : 0 < Q.length := hk.q0
  have c0 := state_any w d Q L h 0 hq0
  have hQ0 : Q[0]? = some W := by rw [← hQ]; exact staQ_zero W
  rw [stCell_ok] at c0
  obtain ⟨⟨u1, u2, u3⟩, hu⟩ : ∃ z, staL Q 0 = z := ⟨_, rfl⟩
  rw [hu] at c0
  simp only at c0
  have HWR := Lib.hid hW; have HQ := Lib.hid hQ; have HDG := Lib.hid h; have HKK0 := Lib.hid hk; have HI := Lib.hid hi; have HN := Lib.hid hn; have HN1 := Lib.hid hn1
  have HU := Lib.hid hu; have HQ0 := Lib.hid hQ0
  have hib : i ≤ 65536 := by have := (List.getElem?_eq_some_iff.1 hi).1; omega
  rw [← rn_cells, hn, hn1]
  rw [hn] at hl64
  have C0 : Hid (Calls Tryd.prog 42 #[.pointer (some ⟨d, 0, none⟩), .int .i64 0] w fun e w' => e = .returned (.agg #[.int .i32 (u1 : Int), .int .i32 (u2 : Int), .bool u3]) ∧ Below w.heap.size w w') := Lib.hid c0
  clear h hW hQ hk hi hn hn1 c0 hu hQ0 hq0
  go_enter Tryd.func49, Tryd.ntmps49
  go_wp2_with fail
  refine C0.out.mono ?_
  rintro e w1 ⟨rfl, b1⟩
  have hbx := bx_new w1 88 #[.int .i32 (u1 : Int), .int .i32 (u2 : Int), .bool u3]
  obtain ⟨B6, hB6⟩ : ∃ z, w1.heap.size = z := ⟨_, rfl⟩
  rw [hB6] at hbx
  have hb1 : Below w.heap.size w (w1.alloc (.cells #[.int .i32 (u1 : Int), .int .i32 (u2 : Int), .bool u3] 88)) := b1.alloc b1.size _
  have hBn : n1 ≤ B6 := by have := b1.size; have := HN1.out; omega
  have HX0 : Hid (∃ s1 s2 s3, staL Q 0 = (s1, s2, s3) ∧ Bx (w1.alloc (.cells #[.int .i32 (u1 : Int), .int .i32 (u2 : Int), .bool u3] 88)) B6 88 #[.int .i32 (s1 : Int), .int .i32 (s2 : Int), .bool s3]) := Lib.hid ⟨u1, u2, u3, HU.out, hbx⟩
  have HB0 := Lib.hid hb1
  have HR0 : Hid ((w1.alloc (.cells #[.int .i32 (u1 : Int), .int .i32 (u2 : Int), .bool u3] 88)).ownsRow n1 21 1 (.slice none 0 0) 0 (gCells rnCell (l.take 0))) := Lib.hid (World.ownsRow_nil _ _ _ _)
  have HBS := Lib.hid hB6
  clear hbx hb1 b1 hB6 C0
  go_wp2
  try rw [HBS.out]
  go_loopw [1, 5] (fun s1 s5 wr => ∃ (iz : Int) (j ia s : Nat) (v : Value), s1 = .int .i32 iz ∧ s5 = v ∧ j ≤ n ∧ ia ≤ 65536 ∧ Hid (iz = (ia : Int)) ∧ Hid (Q[s]? = some (behP W (l.take j)) ∧ (behP W (l.take j))[ia]? = some (l.drop j)) ∧
    Hid (∃ x1 x2 x3, staL Q s = (x1, x2, x3) ∧ Bx wr B6 88 #[.int .i32 (x1 : Int), .int .i32 (x2 : Int), .bool x3]) ∧ Hid (wr.ownsRow n1 21 1 v j (gCells rnCell (l.take j))) ∧ Hid (Below w.heap.size w wr)) (fun _ s5 _ => n - zsl s5)
  case atStart => exact ⟨_, 0, i, 0, _, rfl, rfl, Nat.zero_le _, hib, Lib.hid rfl, Lib.hid ⟨HQ0.out, HI.out⟩, HX0, HR0, HB0⟩
  case round =>
    clear HX0 HR0 HB0
    obtain ⟨iz, j, ia, s, v, rfl, rfl, hjn, hia, HIZ, HS, HX, HR, HB⟩ := hrel
    obtain ⟨hs1, hs2⟩ := HS.out
    obtain ⟨x1, x2, x3, hst, hbx⟩ := HX.out
    have hx3 : x3 = decide ([] ∈ behP W (l.take j)) := by have := staL_at hs1; rw [hst] at this; exact this
    have hend := spell_end HWR.out hs2
    obtain ⟨k0, k1, k2⟩ := hbx.three
    by_cases hd : l.drop j = []
    · obtain ⟨h0, hin⟩ := hend.2 hd
      have j0 : ¬ (0 : Int) < iz := by have := HIZ.out; omega
      have hx3t : x3 = true := by rw [hx3]; exact decide_eq_true hin
      subst hx3t
      have hj : j = n := by have := congrArg List.length hd; rw [List.length_drop, HN.out] at this; simp at this; omega
      subst hj
      have hlt : l.take j = l := List.take_of_length_le (by rw [HN.out]; exact Nat.le_refl _)
      have HF : Hid (wr.ownsRow n1 21 1 u5 j (gCells rnCell l)) := Lib.hid (by have := HR.out; rwa [hlt] at this)
      clear hs1 hs2 hst hbx hx3 hend hd hin hlt HS HX HR
      go_wp2
      go_ret
      exact ⟨_, rfl, HF.out, by rw [← HN1.out]; exact HB.out⟩
    · obtain ⟨r, t, hrt⟩ : ∃ r t, l.drop j = r :: t := List.exists_cons_of_ne_nil hd
      rw [hrt] at hs2
      obtain ⟨kk, q1, q2, q3, q4, q5, q6⟩ := spell_step HWR.out hs2 Q
      have hne : ¬ (ia = 0 ∧ [] ∈ behP W (l.take j)) := fun e => hd (hend.1 e)
      have hjl : j < n := by have := congrArg List.length hrt; rw [List.length_drop, HN.out] at this; simp at this; omega
      have hlj : l[j]? = some r := by have := congrArg (fun z => z[0]?) hrt; simpa using this
      have htk : l.take (j + 1) = l.take j ++ [r] := by rw [List.take_add_one, hlj]; rfl
      have htd : l.drop (j + 1) = t := by rw [← List.drop_drop, hrt]; rfl
      obtain ⟨x, hX⟩ : ∃ z, behP W (l.take j) = z := ⟨_, rfl⟩
      rw [hX] at hs1 hs2 q1 q2 q3 q4 q5 q6 hne hx3
      obtain ⟨to_, hto⟩ : ∃ z, Q.idxOf (behR x r) = z := ⟨_, rfl⟩
      obtain ⟨ah, hah⟩ : ∃ z, ahdR x r = z := ⟨_, rfl⟩
      rw [hto, hah] at q1
      rw [hah] at q4 q5
      obtain ⟨ib, hibb⟩ : ∃ z, ia - ah = z := ⟨_, rfl⟩
      rw [hibb] at q5
      have hnx : behP W (l.take j ++ [r]) ≠ [] := by rw [← place_step, hX]; exact q6
      have hqn : Q[to_]? = some (behP W (l.take (j + 1))) := by
        have := staQ_at (W := W) hnx
        rw [HQ.out] at this
        rw [htk, ← hto, ← hX, ← behP_snoc]
        exact this
      have hq5 : (behP W (l.take (j + 1)))[ib]? = some (l.drop (j + 1)) := by rw [htk, htd]; exact q5
      obtain ⟨hem, hev⟩ := edE_bound HKK0.out hs1
      have hto6 : to_ ≤ 6000000 := hev _ (List.mem_of_getElem? q1)
      have co := out_any wr d Q L (HDG.out.below HB.out) HKK0.out s x hs1
      rw [stCell_ok, hst] at co
      simp only at co
      have CO := Lib.hid co; have HEM := Lib.hid hem; have HKK := Lib.hid q1; have HK1 := Lib.hid q2; have HK2 := Lib.hid q3
      have HNX : Hid (Q[to_]? = some (behP W (l.take (j + 1))) ∧ (behP W (l.take (j + 1)))[ib]? = some (l.drop (j + 1))) := Lib.hid ⟨hqn, hq5⟩
      have HTK := Lib.hid htk
      have HAH : Hid (ah ≤ ia ∧ ia - ah = ib) := Lib.hid ⟨q4, hibb⟩
      have HX6 := Lib.hid hbx
      have wk : wrap64 (to_ : Int) = (to_ : Int) := by unfold wrap64; omega
      have hbsz : n1 ≤ wr.heap.size := by have := HB.out.size; have := HN1.out; omega
      have hcd : (0 < ia) ∨ (ia = 0 ∧ x3 = false) := by
        rcases Nat.eq_zero_or_pos ia with e | e
        · right
          refine ⟨e, ?_⟩
          rw [hx3]
          exact decide_eq_false (fun k => hne ⟨e, k⟩)
        · exact .inl e
      have HBL : Hid (B6 < wr.heap.size) := Lib.hid hbx.lt
      clear hs1 hs2 hst hbx hx3 hend hd hrt q1 q2 q3 q4 q5 q6 hibb hne hlj htd hto hah hnx hqn hq5 hem hev co HS HX htk hX
      have hgo : ∀ (wc : Unit), True := fun _ => trivial
      rcases hcd with h0 | ⟨h0, h3⟩
      · have j0 : (0 : Int) < iz := by have := HIZ.out; omega
        go_wp2_with fail
        clear j0
        refine (CO.out).mono ?_
        rintro e w2 ⟨v2, rfl, hg2, b2⟩
        obtain ⟨A2, c2', ev2⟩ := hg2.slice
        obtain ⟨n2, hn2⟩ : ∃ z, (edE Q x).length = z := ⟨_, rfl⟩
        rw [hn2] at ev2
        subst ev2
        have cl := last_any A2 n2 c2' (edE Q x) w2 hn2 hg2 (by rw [← hn2]; exact HEM.out) ia (by omega) kk _ HKK.out HK1.out HK2.out
        simp only [edCell] at cl
        rw [← HIZ.out] at cl
        have CL := Lib.hid cl
        have hbw2 := HB.out.trans (b2.mono HB.out.size)
        have hx2 := HX6.out.below b2
        have hr2 := z_own_below HR.out b2
        have HB2 := Lib.hid hbw2; have HX2 := Lib.hid hx2; have HR2 := Lib.hid hr2; have HD2 := Lib.hid (HDG.out.below hbw2)
        have hw2s := b2.size
        clear cl hbw2 hx2 hr2 b2 hg2 hn2 CO HB HX6 HR
        go_wp2_with fail
        refine CL.out.mono ?_
        rintro e w3 ⟨rfl, b3⟩
        have hbw3 := HB2.out.trans (b3.mono HB2.out.size)
        have hx3' := HX2.out.below b3
        have hr3 := z_own_below HR2.out b3
        have hal := bel_one w3 (.cells #[.int .i32 r, .int .i32 (to_ : Int), .int .i32 (ah : Int)] 91)
        have hx7 := bx_new w3 91 #[.int .i32 r, .int .i32 (to_ : Int), .int .i32 (ah : Int)]
        obtain ⟨B7, hB7⟩ : ∃ z, w3.heap.size = z := ⟨_, rfl⟩
        obtain ⟨W4, hW4⟩ : ∃ z, w3.alloc (.cells #[.int .i32 r, .int .i32 (to_ : Int), .int .i32 (ah : Int)] 91) = z := ⟨_, rfl⟩
        have h67 : B6 < B7 := by have := HX2.out.lt; have := b3.size; omega
        have hn17 : n1 ≤ B7 := by have := b3.size; omega
        have hb4 := hbw3.trans (hal.mono hbw3.size)
        rw [hW4] at hal hx7 hb4
        rw [hB7] at hx7
        have hx4 := hx3'.below hal
        have hr4 := z_own_below hr3 hal
        have hW4n : n1 ≤ W4.heap.size := by have := hal.size; omega
        obtain ⟨v9, w9, hrun, hown9, hgr9, hblk9⟩ := append_one (P := Tryd.prog) rn_ln rn_one info_n32 rfl (by decide) (by decide) Tryd.underlying63 W4 n1 _ j _ hr4 r hW4n (by omega)
        rw [← gCells_snoc, ← HTK.out] at hown9
        have hz5 : zsl u5 = j := by obtain ⟨A5, c5, e5⟩ := z_own_slice hr4; rw [e5]; rfl
        obtain ⟨A9, c9, e9⟩ := z_own_slice hown9
        subst e9
        have hb9 : Below n1 w w9 := by
          have e1 : Below n1 w W4 := by rw [← HN1.out]; exact hb4
          exact (e1.trans ((bel_one W4 (.cells (rnCell r).toArray 21)).mono hW4n)).grown hgr9 (by simp; omega) (fun k e => by
            rcases hr4.2 with ⟨e2, _⟩ | ⟨g, cap, cur, e2, hb, _⟩
            · rw [e2] at e; cases e
            · rw [e2] at e
              have : g = k := by simpa [Value.ownBlock] using e
              omega)
        have hb9' : Below w.heap.size w w9 := by rw [HN1.out]; exact hb9
        have hx9 : Bx w9 B6 88 _ := (hgr9.block B6 (by have := hx4.lt; simp; omega) (fun e => own_not_box hr4 hx4 (by decide) e.symm)).trans ((Below.heap_alloc _ _ _ hx4.lt).trans hx4)
        have hx79 : Bx w9 B7 91 _ := (hgr9.block B7 (by have := hx7.lt; simp; omega) (fun e => own_not_box hr4 hx7 (by decide) e.symm)).trans ((Below.heap_alloc _ _ _ hx7.lt).trans hx7)
        obtain ⟨e70, e71, e72⟩ := hx7.three
        obtain ⟨m0, m1, m2⟩ := hx79.three
        have hD9 : DgAt w9.drew d Q L := HDG.out.below (hb9'.trans ((Below.refl _ _).drew.mono hb9'.size))
        have hcs := state_any w9.drew d Q L hD9 to_ (List.getElem?_eq_some_iff.1 HNX.out.1).1
        rw [stCell_ok] at hcs
        obtain ⟨⟨t1, t2, t3⟩, htt⟩ : ∃ z, staL Q to_ = z := ⟨_, rfl⟩
        rw [htt] at hcs
        simp only at hcs
        have eg : ∀ args w, (callFunc 42 args).run Tryd.prog w = .ok (.enter 42 args) w := enters_of Tryd.func42 (by kernel_rfl) rfl
        have HCS := Lib.hid hcs; have HEG := Lib.hid eg; have HRUN := Lib.hid hrun; have HB9 := Lib.hid hb9; have HX9 := Lib.hid hx9; have HR9 := Lib.hid hown9; have HTT := Lib.hid htt; have HZ5 := Lib.hid hz5
        have HW4 := Lib.hid hW4; have HB7 := Lib.hid hB7
        clear hbw3 hx3' hr3 hal hx7 hB7 hW4 hb4 hx4 hr4 hrun hown9 hgr9 hblk9 hb9 hb9' hx9 hx79 hD9 hcs eg htt b3 HB2 HX2 HR2 HD2 CL hz5
        go_wp2_with (first
          | (rw [HW4.out, HB7.out])
          | (at_builtin; refine wpList_append_run (.tmp 22) (.tmp 25) 63 _ _ _ _ HRUN.out rfl rfl rfl rfl ?_))
        have wk2 := z_wrap_small to_ hto6
        have wib := z_wrap_sub iz ia ah ib HIZ.out HAH.out hia
        refine z_normal ?_
        refine wp_region_held_drew (S := fun wx => wx.cell? ⟨B7, 1, none⟩ = some (.int .i32 (to_ : Int)) ∧ wx.cell? ⟨B7, 2, none⟩ = some (.int .i32 (ah : Int))) (by kernel_rfl) ⟨m1, m2⟩ (fun hS => ?_)
        change wpAnyH _ _ _ _ _ 11 _ _ _
        refine wpAnyH_take (i := 0) (v := .pointer (some ⟨d, 0, none⟩)) rfl (by kernel_rfl) (by kernel_rfl) (by kernel_rfl) (fun _ _ _ h => h) (Or.inl ⟨by rfl, fun wy hy => by obtain ⟨y0, y1⟩ := hy; go_simp⟩) hS ?_
        refine wpAnyH_take (i := 1) (v := .pointer (some ⟨B7, 1, none⟩)) rfl (by kernel_rfl) (by kernel_rfl) (by kernel_rfl) (fun _ _ _ h => h) (Or.inl ⟨by rfl, fun wy hy => by obtain ⟨y0, y1⟩ := hy; go_simp⟩) hS ?_
        refine wpAnyH_take (i := 2) (v := .int .i32 (to_ : Int)) rfl (by kernel_rfl) (by kernel_rfl) (by kernel_rfl) (fun _ _ _ h => h) (Or.inl ⟨by rfl, fun wy hy => by obtain ⟨y0, y1⟩ := hy; go_simp⟩) hS ?_
        refine wpAnyH_take (i := 3) (v := .int .i64 (to_ : Int)) rfl (by kernel_rfl) (by kernel_rfl) (by kernel_rfl) (fun _ _ _ h => h) (Or.inl ⟨by rfl, fun wy hy => by obtain ⟨y0, y1⟩ := hy; go_simp⟩) hS ?_
        refine wpAnyH_take (i := 5) (v := .int .i32 iz) rfl (by kernel_rfl) (by kernel_rfl) (by kernel_rfl) (fun _ _ _ h => h) (Or.inl ⟨by rfl, fun wy hy => by obtain ⟨y0, y1⟩ := hy; go_simp⟩) hS ?_
        refine wpAnyH_take (i := 6) (v := .pointer (some ⟨B7, 2, none⟩)) rfl (by kernel_rfl) (by kernel_rfl) (by kernel_rfl) (fun _ _ _ h => h) (Or.inl ⟨by rfl, fun wy hy => by obtain ⟨y0, y1⟩ := hy; go_simp⟩) hS ?_
        refine wpAnyH_take (i := 7) (v := .int .i32 (ah : Int)) rfl (by kernel_rfl) (by kernel_rfl) (by kernel_rfl) (fun _ _ _ h => h) (Or.inl ⟨by rfl, fun wy hy => by obtain ⟨y0, y1⟩ := hy; go_simp⟩) hS ?_
        refine wpAnyH_take (i := 8) (v := .int .i32 (ib : Int)) rfl (by kernel_rfl) (by kernel_rfl) (by kernel_rfl) (fun _ _ _ h => h) (Or.inl ⟨by rfl, fun wy hy => by obtain ⟨y0, y1⟩ := hy; go_simp⟩) hS ?_
        refine wpAnyH_ready (rs := [4]) (by kernel_rfl) (by simp) ?_
        refine AllReadyH.cons rfl (fun K hK => ?_) AllReadyH.nil
        refine xstep_call2 rfl 42 (.tmp 27) (.tmp 30) 25 3 rfl HEG.out (by go_simp) (by go_simp) HCS.out ?_
        rintro e w10 ⟨rfl, b10⟩
        refine ⟨_, rfl, ?_⟩
        refine hK.out _ _ ⟨cell_keep b10 hS.1, cell_keep b10 hS.2⟩ (fun hS => ?_)
        have hx10 := (show Bx w9.drew B6 _ _ from HX9.out).below b10
        obtain ⟨f0, f1, f2⟩ := hx10.three
        have g0 := hx10.thaw 0; have g1 := hx10.thaw 1; have g2 := hx10.thaw 2
        have n67 : B7 ≠ B6 := by omega
        refine wpAnyH_ready (rs := [9]) (by kernel_rfl) (by simp) ?_
        refine AllReadyH.cons rfl (fun K hK => ?_) AllReadyH.nil
        go_simp
        refine hK.out _ _ ⟨(z_cell_set_ne _ _ _ _ _ _ n67).trans ((z_cell_set_ne _ _ _ _ _ _ n67).trans ((z_cell_set_ne _ _ _ _ _ _ n67).trans hS.1)), (z_cell_set_ne _ _ _ _ _ _ n67).trans ((z_cell_set_ne _ _ _ _ _ _ n67).trans ((z_cell_set_ne _ _ _ _ _ _ n67).trans hS.2))⟩ (fun hS => ?_)
        refine wpAnyH_take (i := 10) (v := .int .i32 (ib : Int)) rfl (by kernel_rfl) (by kernel_rfl) (by kernel_rfl) (fun _ _ _ h => h) (Or.inl ⟨by rfl, fun wy hy => by obtain ⟨y0, y1⟩ := hy; go_simp⟩) hS ?_
        refine wpAnyH_done (by kernel_rfl) ?_ _
        simp only [ZIn]
        have hb10 : Below n1 w w10 := HB9.out.trans ((show Below w9.heap.size w9 w10 from (Below.refl _ _).drew.trans b10).mono (by have := HX9.out.lt; omega))
        have hn10 : n1 ≤ w10.heap.size := by have := hx10.lt; omega
        have hr10 := z_own_below (show w9.drew.ownsRow n1 21 1 _ (j + 1) _ from z_own_below HR9.out (Below.refl _ _).drew) b10
        have a10 := own_not_box hr10 hx10 (by decide)
        have hxf := hx10.set3 (.int .i32 (t1 : Int)) (.int .i32 (t2 : Int)) (.bool t3)
        have hrf := ((hr10.kept (z_grown_set w10 B6 0 (.int .i32 (t1 : Int))) (.inr a10)).kept (z_grown_set _ B6 1 (.int .i32 (t2 : Int))) (.inr a10)).kept (z_grown_set _ B6 2 (.bool t3)) (.inr a10)
        have hbf := bel_set3 hb10 hn10 B6 (.int .i32 (t1 : Int)) (.int .i32 (t2 : Int)) (.bool t3) hBn
        have HXF := Lib.hid hxf; have HRF := Lib.hid hrf; have HBF := Lib.hid hbf
        clear hb10 hn10 hr10 a10 hxf hrf hbf hx10 f0 f1 f2 g0 g1 g2 b10 hS m0 m1 m2 HCS HRUN HX9 HR9 HB9
        simp only [Act.put, List.getElem_toArray, List.getElem_cons_zero, List.getElem_cons_succ, List.setIfInBounds_toArray, List.set_cons_succ, List.set_cons_zero]
        go_wp2
        exact ⟨⟨_, j + 1, ib, to_, _, rfl, rfl, by omega, by have := HAH.out; omega, Lib.hid rfl, HNX, Lib.hid ⟨t1, t2, t3, HTT.out, HXF.out⟩, HRF, Lib.hid (by rw [HN1.out]; exact HBF.out)⟩, by rw [HZ5.out]; simp only [zsl]; omega⟩
      · subst h3
        have j0 : ¬ (0 : Int) < iz := by have := HIZ.out; omega
        go_wp2_with fail
        clear j0
        refine (CO.out).mono ?_
        rintro e w2 ⟨v2, rfl, hg2, b2⟩
        obtain ⟨A2, c2', ev2⟩ := hg2.slice
        obtain ⟨n2, hn2⟩ : ∃ z, (edE Q x).length = z := ⟨_, rfl⟩
        rw [hn2] at ev2
        subst ev2
        have cl := last_any A2 n2 c2' (edE Q x) w2 hn2 hg2 (by rw [← hn2]; exact HEM.out) ia (by omega) kk _ HKK.out HK1.out HK2.out
        simp only [edCell] at cl
        rw [← HIZ.out] at cl
        have CL := Lib.hid cl
        have hbw2 := HB.out.trans (b2.mono HB.out.size)
        have hx2 := HX6.out.below b2
        have hr2 := z_own_below HR.out b2
        have HB2 := Lib.hid hbw2; have HX2 := Lib.hid hx2; have HR2 := Lib.hid hr2; have HD2 := Lib.hid (HDG.out.below hbw2)
        have hw2s := b2.size
        clear cl hbw2 hx2 hr2 b2 hg2 hn2 CO HB HX6 HR
        go_wp2_with fail
        refine CL.out.mono ?_
        rintro e w3 ⟨rfl, b3⟩
        have hbw3 := HB2.out.trans (b3.mono HB2.out.size)
        have hx3' := HX2.out.below b3
        have hr3 := z_own_below HR2.out b3
        have hal := bel_one w3 (.cells #[.int .i32 r, .int .i32 (to_ : Int), .int .i32 (ah : Int)] 91)
        have hx7 := bx_new w3 91 #[.int .i32 r, .int .i32 (to_ : Int), .int .i32 (ah : Int)]
        obtain ⟨B7, hB7⟩ : ∃ z, w3.heap.size = z := ⟨_, rfl⟩
        obtain ⟨W4, hW4⟩ : ∃ z, w3.alloc (.cells #[.int .i32 r, .int .i32 (to_ : Int), .int .i32 (ah : Int)] 91) = z := ⟨_, rfl⟩
        have h67 : B6 < B7 := by have := HX2.out.lt; have := b3.size; omega
        have hn17 : n1 ≤ B7 := by have := b3.size; omega
        have hb4 := hbw3.trans (hal.mono hbw3.size)
        rw [hW4] at hal hx7 hb4
        rw [hB7] at hx7
        have hx4 := hx3'.below hal
        have hr4 := z_own_below hr3 hal
        have hW4n : n1 ≤ W4.heap.size := by have := hal.size; omega
        obtain ⟨v9, w9, hrun, hown9, hgr9, hblk9⟩ := append_one (P := Tryd.prog) rn_ln rn_one info_n32 rfl (by decide) (by decide) Tryd.underlying63 W4 n1 _ j _ hr4 r hW4n (by omega)
        rw [← gCells_snoc, ← HTK.out] at hown9
        have hz5 : zsl u5 = j := by obtain ⟨A5, c5, e5⟩ := z_own_slice hr4; rw [e5]; rfl
        obtain ⟨A9, c9, e9⟩ := z_own_slice hown9
        subst e9
        have hb9 : Below n1 w w9 := by
          have e1 : Below n1 w W4 := by rw [← HN1.out]; exact hb4
          exact (e1.trans ((bel_one W4 (.cells (rnCell r).toArray 21)).mono hW4n)).grown hgr9 (by simp; omega) (fun k e => by
            rcases hr4.2 with ⟨e2, _⟩ | ⟨g, cap, cur, e2, hb, _⟩
            · rw [e2] at e; cases e
            · rw [e2] at e
              have : g = k := by simpa [Value.ownBlock] using e
              omega)
        have hb9' : Below w.heap.size w w9 := by rw [HN1.out]; exact hb9
        have hx9 : Bx w9 B6 88 _ := (hgr9.block B6 (by have := hx4.lt; simp; omega) (fun e => own_not_box hr4 hx4 (by decide) e.symm)).trans ((Below.heap_alloc _ _ _ hx4.lt).trans hx4)
        have hx79 : Bx w9 B7 91 _ := (hgr9.block B7 (by have := hx7.lt; simp; omega) (fun e => own_not_box hr4 hx7 (by decide) e.symm)).trans ((Below.heap_alloc _ _ _ hx7.lt).trans hx7)
        obtain ⟨e70, e71, e72⟩ := hx7.three
        obtain ⟨m0, m1, m2⟩ := hx79.three
        have hD9 : DgAt w9.drew d Q L := HDG.out.below (hb9'.trans ((Below.refl _ _).drew.mono hb9'.size))
        have hcs := state_any w9.drew d Q L hD9 to_ (List.getElem?_eq_some_iff.1 HNX.out.1).1
        rw [stCell_ok] at hcs
        obtain ⟨⟨t1, t2, t3⟩, htt⟩ : ∃ z, staL Q to_ = z := ⟨_, rfl⟩
        rw [htt] at hcs
        simp only at hcs
        have eg : ∀ args w, (callFunc 42 args).run Tryd.prog w = .ok (.enter 42 args) w := enters_of Tryd.func42 (by kernel_rfl) rfl
        have HCS := Lib.hid hcs; have HEG := Lib.hid eg; have HRUN := Lib.hid hrun; have HB9 := Lib.hid hb9; have HX9 := Lib.hid hx9; have HR9 := Lib.hid hown9; have HTT := Lib.hid htt; have HZ5 := Lib.hid hz5
        have HW4 := Lib.hid hW4; have HB7 := Lib.hid hB7
        clear hbw3 hx3' hr3 hal hx7 hB7 hW4 hb4 hx4 hr4 hrun hown9 hgr9 hblk9 hb9 hb9' hx9 hx79 hD9 hcs eg htt b3 HB2 HX2 HR2 HD2 CL hz5
        go_wp2_with (first
          | (rw [HW4.out, HB7.out])
          | (at_builtin; refine wpList_append_run (.tmp 22) (.tmp 25) 63 _ _ _ _ HRUN.out rfl rfl rfl rfl ?_))
        have wk2 := z_wrap_small to_ hto6
        have wib := z_wrap_sub iz ia ah ib HIZ.out HAH.out hia
        refine z_normal ?_
        refine wp_region_held_drew (S := fun wx => wx.cell? ⟨B7, 1, none⟩ = some (.int .i32 (to_ : Int)) ∧ wx.cell? ⟨B7, 2, none⟩ = some (.int .i32 (ah : Int))) (by kernel_rfl) ⟨m1, m2⟩ (fun hS => ?_)
        change wpAnyH _ _ _ _ _ 11 _ _ _
        refine wpAnyH_take (i := 0) (v := .pointer (some ⟨d, 0, none⟩)) rfl (by kernel_rfl) (by kernel_rfl) (by kernel_rfl) (fun _ _ _ h => h) (Or.inl ⟨by rfl, fun wy hy => by obtain ⟨y0, y1⟩ := hy; go_simp⟩) hS ?_
        refine wpAnyH_take (i := 1) (v := .pointer (some ⟨B7, 1, none⟩)) rfl (by kernel_rfl) (by kernel_rfl) (by kernel_rfl) (fun _ _ _ h => h) (Or.inl ⟨by rfl, fun wy hy => by obtain ⟨y0, y1⟩ := hy; go_simp⟩) hS ?_
        refine wpAnyH_take (i := 2) (v := .int .i32 (to_ : Int)) rfl (by kernel_rfl) (by kernel_rfl) (by kernel_rfl) (fun _ _ _ h => h) (Or.inl ⟨by rfl, fun wy hy => by obtain ⟨y0, y1⟩ := hy; go_simp⟩) hS ?_
        refine wpAnyH_take (i := 3) (v := .int .i64 (to_ : Int)) rfl (by kernel_rfl) (by kernel_rfl) (by kernel_rfl) (fun _ _ _ h => h) (Or.inl ⟨by rfl, fun wy hy => by obtain ⟨y0, y1⟩ := hy; go_simp⟩) hS ?_
        refine wpAnyH_take (i := 5) (v := .int .i32 iz) rfl (by kernel_rfl) (by kernel_rfl) (by kernel_rfl) (fun _ _ _ h => h) (Or.inl ⟨by rfl, fun wy hy => by obtain ⟨y0, y1⟩ := hy; go_simp⟩) hS ?_
        refine wpAnyH_take (i := 6) (v := .pointer (some ⟨B7, 2, none⟩)) rfl (by kernel_rfl) (by kernel_rfl) (by kernel_rfl) (fun _ _ _ h => h) (Or.inl ⟨by rfl, fun wy hy => by obtain ⟨y0, y1⟩ := hy; go_simp⟩) hS ?_
        refine wpAnyH_take (i := 7) (v := .int .i32 (ah : Int)) rfl (by kernel_rfl) (by kernel_rfl) (by kernel_rfl) (fun _ _ _ h => h) (Or.inl ⟨by rfl, fun wy hy => by obtain ⟨y0, y1⟩ := hy; go_simp⟩) hS ?_
        refine wpAnyH_take (i := 8) (v := .int .i32 (ib : Int)) rfl (by kernel_rfl) (by kernel_rfl) (by kernel_rfl) (fun _ _ _ h => h) (Or.inl ⟨by rfl, fun wy hy => by obtain ⟨y0, y1⟩ := hy; go_simp⟩) hS ?_
        refine wpAnyH_ready (rs := [4]) (by kernel_rfl) (by simp) ?_
        refine AllReadyH.cons rfl (fun K hK => ?_) AllReadyH.nil
        refine xstep_call2 rfl 42 (.tmp 27) (.tmp 30) 25 3 rfl HEG.out (by go_simp) (by go_simp) HCS.out ?_
        rintro e w10 ⟨rfl, b10⟩
        refine ⟨_, rfl, ?_⟩
        refine hK.out _ _ ⟨cell_keep b10 hS.1, cell_keep b10 hS.2⟩ (fun hS => ?_)
        have hx10 := (show Bx w9.drew B6 _ _ from HX9.out).below b10
        obtain ⟨f0, f1, f2⟩ := hx10.three
        have g0 := hx10.thaw 0; have g1 := hx10.thaw 1; have g2 := hx10.thaw 2
        have n67 : B7 ≠ B6 := by omega
        refine wpAnyH_ready (rs := [9]) (by kernel_rfl) (by simp) ?_
        refine AllReadyH.cons rfl (fun K hK => ?_) AllReadyH.nil
        go_simp
        refine hK.out _ _ ⟨(z_cell_set_ne _ _ _ _ _ _ n67).trans ((z_cell_set_ne _ _ _ _ _ _ n67).trans ((z_cell_set_ne _ _ _ _ _ _ n67).trans hS.1)), (z_cell_set_ne _ _ _ _ _ _ n67).trans ((z_cell_set_ne _ _ _ _ _ _ n67).trans ((z_cell_set_ne _ _ _ _ _ _ n67).trans hS.2))⟩ (fun hS => ?_)
        refine wpAnyH_take (i := 10) (v := .int .i32 (ib : Int)) rfl (by kernel_rfl) (by kernel_rfl) (by kernel_rfl) (fun _ _ _ h => h) (Or.inl ⟨by rfl, fun wy hy => by obtain ⟨y0, y1⟩ := hy; go_simp⟩) hS ?_
        refine wpAnyH_done (by kernel_rfl) ?_ _
        simp only [ZIn]
        have hb10 : Below n1 w w10 := HB9.out.trans ((show Below w9.heap.size w9 w10 from (Below.refl _ _).drew.trans b10).mono (by have := HX9.out.lt; omega))
        have hn10 : n1 ≤ w10.heap.size := by have := hx10.lt; omega
        have hr10 := z_own_below (show w9.drew.ownsRow n1 21 1 _ (j + 1) _ from z_own_below HR9.out (Below.refl _ _).drew) b10
        have a10 := own_not_box hr10 hx10 (by decide)
        have hxf := hx10.set3 (.int .i32 (t1 : Int)) (.int .i32 (t2 : Int)) (.bool t3)
        have hrf := ((hr10.kept (z_grown_set w10 B6 0 (.int .i32 (t1 : Int))) (.inr a10)).kept (z_grown_set _ B6 1 (.int .i32 (t2 : Int))) (.inr a10)).kept (z_grown_set _ B6 2 (.bool t3)) (.inr a10)
        have hbf := bel_set3 hb10 hn10 B6 (.int .i32 (t1 : Int)) (.int .i32 (t2 : Int)) (.bool t3) hBn
        have HXF := Lib.hid hxf; have HRF := Lib.hid hrf; have HBF := Lib.hid hbf
        clear hb10 hn10 hr10 a10 hxf hrf hbf hx10 f0 f1 f2 g0 g1 g2 b10 hS m0 m1 m2 HCS HRUN HX9 HR9 HB9
        simp only [Act.put, List.getElem_toArray, List.getElem_cons_zero, List.getElem_cons_succ, List.setIfInBounds_toArray, List.set_cons_succ, List.set_cons_zero]
        go_wp2
        exact ⟨⟨_, j + 1, ib, to_, _, rfl, rfl, by omega, by have := HAH.out; omega, Lib.hid rfl, HNX, Lib.hid ⟨t1, t2, t3, HTT.out, HXF.out⟩, HRF, Lib.hid (by rw [HN1.out]; exact HBF.out)⟩, by rw [HZ5.out]; simp only [zsl]; omega⟩
end Go.Proofs.YtnjhbblhlgpgdaaDoor

/- Dawg.Place: where a word stands among all. -/
namespace Go.Proofs.YtnjhbblhlgpgdaaDoor
open Go.RowKit Go.Shelf Go.Lib
attribute [local go_sem] Oper.semAt_some
set_option linter.unusedSimpArgs false
set_option linter.unusedVariables false

/-- Is a text a token that is a word? -/
def isW (W : Rst) (s : List UInt8) : Prop := tokErr s = 0 ∧ items s ∈ W
instance (W : Rst) (s : List UInt8) : Decidable (isW W s) := by unfold isW; infer_instance
def plcE (W : Rst) (s : List UInt8) : Int := if isW W s then 0 else 10
def plcV (W : Rst) (s : List UInt8) : Nat := if isW W s then ahdP W (items s) else 0
theorem tok_le64 (s : List UInt8) : (tokRunes s).length ≤ 64 := by
  unfold tokRunes
  split
  · rename_i h
    unfold tokErr at h
    split at h
    · split at h
      · cases h
      · split at h
        · cases h
        · omega
    · cases h
  · exact Nat.zero_le _
theorem z_w64 (a : Nat) (h : a ≤ 65536) : wrap64 (a : Int) = (a : Int) := by unfold wrap64; omega
theorem z_wrap32 (a b c : Nat) (h : a + b = c) (hc : c ≤ 65536) : IntKind.i32.wrap ((a : Int) + (b : Int)) = (c : Int) := by rw [IntKind.wrap_i32]; omega
theorem z_runs_set3 {w : World} {A : Option Addr} {n c : Nat} {l : List Int} {B : Nat} (h : Runs w (.slice A n c) l) (hn : l.length = n) (ha : ∃ b o, n = 0 ∨ (A = some ⟨b, o, none⟩ ∧ b < B)) (x y z : Value) : Runs (((w.setCell ⟨B, 0, none⟩ x).setCell ⟨B, 1, none⟩ y).setCell ⟨B, 2, none⟩ z) (.slice A n c) l := by
  obtain ⟨A', c', e, hc, hm, hx⟩ := h
  refine ⟨A', c', e, hc, hm, fun h0 => ?_⟩
  obtain ⟨b, o, e2, hlt, hcc⟩ := hx h0
  rw [hn] at e h0
  obtain ⟨rfl, _, rfl⟩ := Value.slice.inj e
  obtain ⟨b', o', ha⟩ := ha
  rcases ha with ha | ⟨ha, hb⟩
  · omega
  · rw [e2] at ha
    simp only [Option.some.injEq, Addr.mk.injEq] at ha
    obtain ⟨rfl, rfl, _⟩ := ha
    have hne : b ≠ B := by omega
    exact ⟨b, o, e2, by simpa using hlt, fun j hj => (z_cell_set_ne _ _ _ _ _ _ hne).trans ((z_cell_set_ne _ _ _ _ _ _ hne).trans ((z_cell_set_ne _ _ _ _ _ _ hne).trans (hcc j hj)))⟩
theorem place_not {W : Rst} {l : List Int} {j : Nat} {r : Int} (hr : l[j]? = some r) (h : r ∉ hdsR (behP W (l.take j))) : l ∉ W := fun hm => by
  refine h (mem_hdsR.2 ⟨l.drop (j + 1), mem_behP.2 ?_⟩)
  have : l.take j ++ r :: l.drop (j + 1) = l := by
    conv => rhs; rw [← List.take_append_drop j l]
    rw [List.drop_eq_getElem_cons (List.getElem?_eq_some_iff.1 hr).1, (List.getElem?_eq_some_iff.1 hr).2]
  rw [this]; exact hm
theorem place_ends {W : Rst} {l : List Int} : [] ∈ behP W l ↔ l ∈ W := by
  rw [mem_behP, List.append_nil]

set_option maxRecDepth 100000 in
set_option maxHeartbeats 16000000 in
theorem place_any (w : World) (hO : Okw w) (d : Nat) (L : List Wrd) (W : Rst) (hW : W.Pairwise (· < ·)) (Q : List Rst) (hQ : staQ W = Q) (h : DgAt w d Q L) (hk : DgOk Q L) (hWl : W.length ≤ 65536) (s : ByteArray) (hs : s.size * 4 ≤ 140737488355328) :
    Calls Tryd.prog 26 #[.pointer (some ⟨d, 0, none⟩), .string s] w fun e w' => e = .returned (.tuple #[.int .i64 (plcV W s.data.toList : Int), .int .i64 (plcE W s.data.toList)]) ∧ Below w.heap.size w w' := by
  have ct := token_any s w hs hO.1 hO.2
  have hte := tok_le64 s.data.toList
  have htr : tokErr s.data.toList = 0 → tokRunes s.data.toList = items s.data.toList := fun e => by unfold tokRunes; rw [if_pos e]
  have hpv : plcV W s.data.toList = if isW W s.data.toList then ahdP W (items s.data.toList) else 0 := rfl
  have hpe : plcE W s.data.toList = if isW W s.data.toList then 0 else 10 := rfl
  have hiw : isW W s.data.toList ↔ tokErr s.data.toList = 0 ∧ items s.data.toList ∈ W := Iff.rfl
  obtain ⟨er, her⟩ : ∃ z, tokErr s.data.toList = z := ⟨_, rfl⟩
  obtain ⟨pv, hpv'⟩ : ∃ z, plcV W s.data.toList = z := ⟨_, rfl⟩
  obtain ⟨pe, hpe'⟩ : ∃ z, plcE W s.data.toList = z := ⟨_, rfl⟩
  obtain ⟨l, hl⟩ : ∃ z, tokRunes s.data.toList = z := ⟨_, rfl⟩
  rw [hpv'] at hpv ⊢
  rw [hpe'] at hpe ⊢
  rw [her, hl] at ct
  rw [her] at htr hiw
  rw [hl] at htr hte
  have HPN : Hid (er ≠ 0 → pv = 0 ∧ pe = 10) := Lib.hid (fun e => by
    have hn : ¬ isW W s.data.toList := fun k => e (hiw.1 k).1
    exact ⟨by rw [hpv, if_neg hn], by rw [hpe, if_neg hn]⟩)
  have HPO : Hid (er = 0 → l ∉ W → pv = 0 ∧ pe = 10) := Lib.hid (fun e hm => by
    have hn : ¬ isW W s.data.toList := fun k => hm (by rw [htr e]; exact (hiw.1 k).2)
    exact ⟨by rw [hpv, if_neg hn], by rw [hpe, if_neg hn]⟩)
  have HPI : Hid (er = 0 → l ∈ W → pv = ahdP W l ∧ pe = 0) := Lib.hid (fun e hm => by
    rw [htr e] at hm ⊢
    have hn : isW W s.data.toList := hiw.2 ⟨e, hm⟩
    exact ⟨by rw [hpv, if_pos hn], by rw [hpe, if_pos hn]⟩)
  obtain ⟨n, hn⟩ : ∃ z, l.length = z := ⟨_, rfl⟩
  rw [hn] at ct hte
  obtain ⟨n1, hn1⟩ : ∃ z, w.heap.size = z := ⟨_, rfl⟩
  have c0 := fun w' (hd : DgAt w' d Q L) => state_any w' d Q L hd 0 hk.q0
  have hQ0 : Q[0]? = some W := by rw [← hQ]; exact staQ_zero W
  simp only [stCell_ok] at c0
  obtain ⟨⟨u1, u2, u3⟩, hu⟩ : ∃ z, staL Q 0 = z := ⟨_, rfl⟩
  rw [hu] at c0
  simp only at c0
  have HWR := Lib.hid hW; have HQ := Lib.hid hQ; have HDG := Lib.hid h; have HKK0 := Lib.hid hk; have HN := Lib.hid hn; have HN1 := Lib.hid hn1
  have HU := Lib.hid hu; have HQ0 := Lib.hid hQ0
  have CT := Lib.hid ct; have HWL := Lib.hid hWl
  have C0 : Hid (∀ w', DgAt w' d Q L → Calls Tryd.prog 42 #[.pointer (some ⟨d, 0, none⟩), .int .i64 0] w' fun e w'' => e = .returned (.agg #[.int .i32 (u1 : Int), .int .i32 (u2 : Int), .bool u3]) ∧ Below w'.heap.size w' w'') := Lib.hid c0
  clear h hW hQ hk hn hn1 c0 hu hQ0 ct htr hpv hpe hiw her hpv' hpe' hl hs hO hWl
  go_enter Tryd.func26, Tryd.ntmps26
  go_wp2_with fail
  refine CT.out.mono ?_
  rintro e w0 ⟨A, c, rfl, hrn, b0⟩
  have HRN := Lib.hid hrn; have B0 := Lib.hid b0
  clear hrn b0 CT
  by_cases h0 : er = 0
  · subst h0
    have c1 := C0.out w0 (HDG.out.below B0.out)
    have C1 := Lib.hid c1
    clear c1
    go_wp2_with fail
    refine C1.out.mono ?_
    rintro e w1 ⟨rfl, b1⟩
    have hbw1 := B0.out.trans (b1.mono B0.out.size)
    have hbx := bx_new w1 88 #[.int .i32 (u1 : Int), .int .i32 (u2 : Int), .bool u3]
    obtain ⟨B6, hB6⟩ : ∃ z, w1.heap.size = z := ⟨_, rfl⟩
    rw [hB6] at hbx
    have hb1 : Below w.heap.size w (w1.alloc (.cells #[.int .i32 (u1 : Int), .int .i32 (u2 : Int), .bool u3] 88)) := hbw1.alloc hbw1.size _
    have hr1 := (HRN.out.below b1).below (bel_one w1 (.cells #[.int .i32 (u1 : Int), .int .i32 (u2 : Int), .bool u3] 88))
    have hBn : n1 ≤ B6 := by have := hbw1.size; have := HN1.out; omega
    have HX0 : Hid (∃ s1 s2 s3, staL Q 0 = (s1, s2, s3) ∧ Bx (w1.alloc (.cells #[.int .i32 (u1 : Int), .int .i32 (u2 : Int), .bool u3] 88)) B6 88 #[.int .i32 (s1 : Int), .int .i32 (s2 : Int), .bool s3]) := Lib.hid ⟨u1, u2, u3, HU.out, hbx⟩
    have HB0 := Lib.hid hb1; have HR0 := Lib.hid hr1
    have HAL : Hid (∃ b o, n = 0 ∨ (A = some ⟨b, o, none⟩ ∧ b < B6)) := Lib.hid (by
      obtain ⟨A', c', e, _, _, hx⟩ := HRN.out
      rw [HN.out] at e hx
      obtain ⟨rfl, _, rfl⟩ := Value.slice.inj e
      rcases Nat.eq_zero_or_pos n with e0 | e0
      · exact ⟨0, 0, .inl e0⟩
      · obtain ⟨b, o, e2, hlt, _⟩ := hx e0
        exact ⟨b, o, .inr ⟨e2, by have := b1.size; omega⟩⟩)
    have HBS := Lib.hid hB6
    clear hbx hb1 b1 hB6 C0 C1 hr1 hbw1 HRN
    go_wp2
    try rw [HBS.out]
    go_loopw [9, 27] (fun s9 s27 wr => ∃ (j sm st : Nat), s9 = .int .i32 (sm : Int) ∧ s27 = .int .i64 (j : Int) ∧ j ≤ n ∧ Hid (Q[st]? = some (behP W (l.take j)) ∧ sm = ahdP W (l.take j) ∧ sm ≤ 65536) ∧
      Hid (∃ x1 x2 x3, staL Q st = (x1, x2, x3) ∧ Bx wr B6 88 #[.int .i32 (x1 : Int), .int .i32 (x2 : Int), .bool x3]) ∧ Hid (Runs wr (.slice A n c) l) ∧ Hid (Below w.heap.size w wr)) (fun _ s27 _ => n - (RowKit.intOf s27).toNat)
    case atStart => exact ⟨0, 0, 0, rfl, rfl, Nat.zero_le _, Lib.hid ⟨HQ0.out, rfl, Nat.zero_le _⟩, HX0, HR0, HB0⟩
    case round =>
      clear HX0 HR0 HB0
      obtain ⟨j, sm, st, rfl, rfl, hjn, HS, HX, HR, HB⟩ := hrel
      obtain ⟨hs1, hs2, hs3⟩ := HS.out
      obtain ⟨x1, x2, x3, hst, hbx⟩ := HX.out
      have hx3 : x3 = decide ([] ∈ behP W (l.take j)) := by have := staL_at hs1; rw [hst] at this; exact this
      obtain ⟨k0, k1, k2⟩ := hbx.three
      by_cases hj : j < n
      · obtain ⟨r, hr⟩ : ∃ r, l[j]? = some r := ⟨_, List.getElem?_eq_getElem (by rw [HN.out]; exact hj)⟩
        obtain ⟨b9, o9, e9, _, g0⟩ := z_run_cell HR.out HN.out hr
        subst e9
        have i1 : (j : Int) < (n : Int) := by omega
        obtain ⟨x, hX⟩ : ∃ z, behP W (l.take j) = z := ⟨_, rfl⟩
        have htk : l.take (j + 1) = l.take j ++ [r] := by rw [List.take_add_one, hr]; rfl
        have hxr : x.Pairwise (· < ·) := by rw [← hX]; exact behP_rising HWR.out
        have hno := place_not (W := W) hr
        rw [hX] at hs1 hno
        have hyes : r ∈ hdsR x → Q[Q.idxOf (behR x r)]? = some (behP W (l.take (j + 1))) ∧ ahdP W (l.take (j + 1)) = sm + ahdR x r ∧ ahdP W (l.take (j + 1)) ≤ 65536 := fun hm => by
          have hne : behP W (l.take j ++ [r]) ≠ [] := by rw [← place_step, hX]; exact hm
          have h1 := staQ_at (W := W) hne
          rw [HQ.out] at h1
          have h2 := ahdP_snoc (l.take j) W r
          rw [hX, ← hs2] at h2
          have h3 := ahdP_lt HWR.out hne
          rw [htk]
          refine ⟨?_, h2, by have := HWL.out; omega⟩
          rw [behP_snoc, hX] at h1 ⊢
          exact h1
        have cb := by_any wr d Q L (HDG.out.below HB.out) HKK0.out st x hs1 hxr r
        rw [stCell_ok, hst] at cb
        simp only [edCell] at cb
        have hbe : r ∈ hdsR x → byE Q x r = (r, Q.idxOf (behR x r), ahdR x r) := fun hm => by unfold byE; rw [if_pos hm]
        have hbq : (byE Q x r).2.1 ≤ 6000000 := by
          have := HKK0.out.qm
          unfold byE
          split
          · exact Nat.le_trans List.idxOf_le_length (by omega)
          · exact Nat.zero_le _
        obtain ⟨⟨y1, to_, ah⟩, hby⟩ : ∃ z, byE Q x r = z := ⟨_, rfl⟩
        rw [hby] at cb hbe hbq
        simp only at cb hbq
        obtain ⟨fd, hfd⟩ : ∃ z, decide (r ∈ hdsR x) = z := ⟨_, rfl⟩
        rw [hfd] at cb
        have HNO : Hid (fd = false → pv = 0 ∧ pe = 10) := Lib.hid (fun e => HPO.out (by first | rfl | trivial) (hno (of_decide_eq_false (hfd.trans e))))
        have HYES : Hid (fd = true → Q[to_]? = some (behP W (l.take (j + 1))) ∧ ahdP W (l.take (j + 1)) = sm + ah ∧ ahdP W (l.take (j + 1)) ≤ 65536) := Lib.hid (fun e => by
          have hm := of_decide_eq_true (hfd.trans e)
          have e2 := hbe hm
          simp only [Prod.mk.injEq] at e2
          obtain ⟨_, e3, e4⟩ := e2
          rw [e3, e4]
          exact hyes hm)
        have CB := Lib.hid cb
        have HX6 := Lib.hid hbx
        have wk : wrap64 (to_ : Int) = (to_ : Int) := by unfold wrap64; omega
        have hbsz : n1 ≤ wr.heap.size := by have := HB.out.size; have := HN1.out; omega
        clear hs1 hs2 hst hbx hx3 hr hX htk hxr hno hyes cb hbe hby hfd HS HX
        go_wp2_with fail
        refine CB.out.mono ?_
        rintro e w3 ⟨rfl, b3⟩
        have hbw3 := HB.out.trans (b3.mono HB.out.size)
        have hx3' := HX6.out.below b3
        have hal := bel_one w3 (.cells #[.int .i32 y1, .int .i32 (to_ : Int), .int .i32 (ah : Int)] 91)
        have hr4 := (HR.out.below b3).below hal
        have hx7 := bx_new w3 91 #[.int .i32 y1, .int .i32 (to_ : Int), .int .i32 (ah : Int)]
        obtain ⟨B7, hB7⟩ : ∃ z, w3.heap.size = z := ⟨_, rfl⟩
        obtain ⟨W4, hW4⟩ : ∃ z, w3.alloc (.cells #[.int .i32 y1, .int .i32 (to_ : Int), .int .i32 (ah : Int)] 91) = z := ⟨_, rfl⟩
        have h67 : B6 < B7 := by have := HX6.out.lt; have := b3.size; omega
        have hb4 := hbw3.trans (hal.mono hbw3.size)
        rw [hW4] at hal hx7 hb4 hr4
        rw [hB7] at hx7
        have hx4 := hx3'.below hal
        have HB4 := Lib.hid hb4; have HX4 := Lib.hid hx4; have HX7 := Lib.hid hx7; have HR4 := Lib.hid hr4
        have HW4 := Lib.hid hW4; have HB7 := Lib.hid hB7
        clear hbw3 hx3' hal hr4 hx7 hB7 hW4 hb4 hx4 b3 CB HX6 HR HB
        cases fd
        · obtain ⟨e1, e2⟩ := HNO.out rfl
          subst e1 e2
          go_wp2_with (rw [HW4.out, HB7.out])
          go_ret2
          exact ⟨rfl, by first | exact HB4.out | (rw [← HN1.out]; exact HB4.out)⟩
        · obtain ⟨y1', y2', y3'⟩ := HYES.out rfl
          obtain ⟨sn, hsn⟩ : ∃ z, sm + ah = z := ⟨_, rfl⟩
          rw [hsn] at y2'
          have hsn6 : sn ≤ 65536 := by omega
          have hD9 : DgAt W4.drew d Q L := HDG.out.below (HB4.out.trans ((Below.refl _ _).drew.mono HB4.out.size))
          have hcs := state_any W4.drew d Q L hD9 to_ (List.getElem?_eq_some_iff.1 y1').1
          rw [stCell_ok] at hcs
          obtain ⟨⟨t1, t2, t3⟩, htt⟩ : ∃ z, staL Q to_ = z := ⟨_, rfl⟩
          rw [htt] at hcs
          simp only at hcs
          have eg : ∀ args w, (callFunc 42 args).run Tryd.prog w = .ok (.enter 42 args) w := enters_of Tryd.func42 (by kernel_rfl) rfl
          have HCS := Lib.hid hcs; have HEG := Lib.hid eg; have HTT := Lib.hid htt; have HYY := Lib.hid y1'; have HSN := Lib.hid y2'
          obtain ⟨m0, m1, m2⟩ := HX7.out.three
          have hwsn := z_wrap32 sm ah sn hsn hsn6
          have hwk2 := z_wrap_small to_ hbq
          have HWS := Lib.hid hwsn; have HWK2 := Lib.hid hwk2
          clear hD9 hcs eg htt y1' y2' y3' hwsn hwk2
          go_wp2_with (rw [HW4.out, HB7.out])
          have wk2 := HWK2.out
          have wsn := HWS.out
          refine z_normal ?_
          refine wp_region_held_drew (S := fun wx => wx.cell? ⟨B7, 1, none⟩ = some (.int .i32 (to_ : Int)) ∧ wx.cell? ⟨B7, 2, none⟩ = some (.int .i32 (ah : Int))) (by kernel_rfl) ⟨m1, m2⟩ (fun hS => ?_)
          change wpAnyH _ _ _ _ _ 11 _ _ _
          refine wpAnyH_take (i := 0) (v := .pointer (some ⟨d, 0, none⟩)) rfl (by kernel_rfl) (by kernel_rfl) (by kernel_rfl) (fun _ _ _ h => h) (Or.inl ⟨by rfl, fun wy hy => by obtain ⟨y0, y1⟩ := hy; go_simp⟩) hS ?_
          refine wpAnyH_take (i := 1) (v := .pointer (some ⟨B7, 1, none⟩)) rfl (by kernel_rfl) (by kernel_rfl) (by kernel_rfl) (fun _ _ _ h => h) (Or.inl ⟨by rfl, fun wy hy => by obtain ⟨y0, y1⟩ := hy; go_simp⟩) hS ?_
          refine wpAnyH_take (i := 2) (v := .int .i32 (to_ : Int)) rfl (by kernel_rfl) (by kernel_rfl) (by kernel_rfl) (fun _ _ _ h => h) (Or.inl ⟨by rfl, fun wy hy => by obtain ⟨y0, y1⟩ := hy; go_simp⟩) hS ?_
          refine wpAnyH_take (i := 3) (v := .int .i64 (to_ : Int)) rfl (by kernel_rfl) (by kernel_rfl) (by kernel_rfl) (fun _ _ _ h => h) (Or.inl ⟨by rfl, fun wy hy => by obtain ⟨y0, y1⟩ := hy; go_simp⟩) hS ?_
          refine wpAnyH_take (i := 5) (v := .int .i32 (sm : Int)) rfl (by kernel_rfl) (by kernel_rfl) (by kernel_rfl) (fun _ _ _ h => h) (Or.inl ⟨by rfl, fun wy hy => by obtain ⟨y0, y1⟩ := hy; go_simp⟩) hS ?_
          refine wpAnyH_take (i := 6) (v := .pointer (some ⟨B7, 2, none⟩)) rfl (by kernel_rfl) (by kernel_rfl) (by kernel_rfl) (fun _ _ _ h => h) (Or.inl ⟨by rfl, fun wy hy => by obtain ⟨y0, y1⟩ := hy; go_simp⟩) hS ?_
          refine wpAnyH_take (i := 7) (v := .int .i32 (ah : Int)) rfl (by kernel_rfl) (by kernel_rfl) (by kernel_rfl) (fun _ _ _ h => h) (Or.inl ⟨by rfl, fun wy hy => by obtain ⟨y0, y1⟩ := hy; go_simp⟩) hS ?_
          refine wpAnyH_take (i := 8) (v := .int .i32 (sn : Int)) rfl (by kernel_rfl) (by kernel_rfl) (by kernel_rfl) (fun _ _ _ h => h) (Or.inl ⟨by rfl, fun wy hy => by obtain ⟨y0, y1⟩ := hy; go_simp⟩) hS ?_
          refine wpAnyH_ready (rs := [4]) (by kernel_rfl) (by simp) ?_
          refine AllReadyH.cons rfl (fun K hK => ?_) AllReadyH.nil
          refine xstep_call2 rfl 42 (.tmp 40) (.tmp 43) 25 3 rfl HEG.out (by go_simp) (by go_simp) HCS.out ?_
          rintro e w10 ⟨rfl, b10⟩
          refine ⟨_, rfl, ?_⟩
          refine hK.out _ _ ⟨cell_keep b10 hS.1, cell_keep b10 hS.2⟩ (fun hS => ?_)
          have hx10 := (show Bx W4.drew B6 _ _ from HX4.out).below b10
          obtain ⟨f0, f1, f2⟩ := hx10.three
          have g0 := hx10.thaw 0; have g1 := hx10.thaw 1; have g2 := hx10.thaw 2
          have n67 : B7 ≠ B6 := by omega
          refine wpAnyH_ready (rs := [9]) (by kernel_rfl) (by simp) ?_
          refine AllReadyH.cons rfl (fun K hK => ?_) AllReadyH.nil
          go_simp
          refine hK.out _ _ ⟨(z_cell_set_ne _ _ _ _ _ _ n67).trans ((z_cell_set_ne _ _ _ _ _ _ n67).trans ((z_cell_set_ne _ _ _ _ _ _ n67).trans hS.1)), (z_cell_set_ne _ _ _ _ _ _ n67).trans ((z_cell_set_ne _ _ _ _ _ _ n67).trans ((z_cell_set_ne _ _ _ _ _ _ n67).trans hS.2))⟩ (fun hS => ?_)
          refine wpAnyH_take (i := 10) (v := .int .i32 (sn : Int)) rfl (by kernel_rfl) (by kernel_rfl) (by kernel_rfl) (fun _ _ _ h => h) (Or.inl ⟨by rfl, fun wy hy => by obtain ⟨y0, y1⟩ := hy; go_simp⟩) hS ?_
          refine wpAnyH_done (by kernel_rfl) ?_ _
          simp only [ZIn]
          have hb10 : Below w.heap.size w w10 := HB4.out.trans ((show Below W4.heap.size W4 w10 from (Below.refl _ _).drew.trans b10).mono HB4.out.size)
          have hxf := hx10.set3 (.int .i32 (t1 : Int)) (.int .i32 (t2 : Int)) (.bool t3)
          have hbf := bel_set3 hb10 hb10.size B6 (.int .i32 (t1 : Int)) (.int .i32 (t2 : Int)) (.bool t3) (by have := HN1.out; omega)
          have hrf := z_runs_set3 ((show Runs W4.drew _ l from HR4.out.below (Below.refl _ _).drew).below b10) HN.out HAL.out (.int .i32 (t1 : Int)) (.int .i32 (t2 : Int)) (.bool t3)
          have HXF := Lib.hid hxf; have HRF := Lib.hid hrf; have HBF := Lib.hid hbf
          clear hb10 hxf hrf hbf hx10 f0 f1 f2 g0 g1 g2 b10 hS m0 m1 m2 HCS HX4 HR4 HB4 wk2 wsn HWS HWK2
          simp only [Act.put, List.getElem_toArray, List.getElem_cons_zero, List.getElem_cons_succ, List.setIfInBounds_toArray, List.set_cons_succ, List.set_cons_zero]
          go_wp2
          exact ⟨⟨j + 1, sn, to_, rfl, by go_num, by omega, Lib.hid ⟨HYY.out, HSN.out.symm, hsn6⟩, Lib.hid ⟨t1, t2, t3, HTT.out, HXF.out⟩, HRF, HBF⟩, by simp [RowKit.intOf]; omega⟩
      · obtain rfl : j = n := by omega
        have i1 : ¬ (j : Int) < (j : Int) := by omega
        have hlt : l.take j = l := List.take_of_length_le (by rw [HN.out]; exact Nat.le_refl _)
        rw [hlt] at hx3 hs2
        have wks := z_w64 sm hs3
        cases hx : x3
        · have hni : l ∉ W := fun e => of_decide_eq_false (hx3.symm.trans hx) (place_ends.2 e)
          obtain ⟨e1, e2⟩ := HPO.out (by first | rfl | trivial) hni
          subst e1 e2 hx
          clear hs1 hs2 hst hbx hx3 hlt HS HX HR hni
          go_wp2
          go_ret2
          exact ⟨rfl, by first | exact HB.out | (rw [← HN1.out]; exact HB.out)⟩
        · have hni : l ∈ W := place_ends.1 (of_decide_eq_true (hx3.symm.trans hx))
          obtain ⟨e1, e2⟩ := HPI.out (by first | rfl | trivial) hni
          have HPV : Hid (pv = sm) := Lib.hid (by rw [e1, hs2])
          subst e2 hx
          clear e1 hs1 hs2 hst hbx hx3 hlt HS HX HR hni
          go_wp2
          go_ret2
          exact ⟨by rw [HPV.out]; rfl, by first | exact HB.out | (rw [← HN1.out]; exact HB.out)⟩
  · obtain ⟨e1, e2⟩ := HPN.out h0
    subst e1 e2
    have h0' : (er != 0) = true := by simpa using h0
    have h0'' : (er == 0) = false := by simpa using h0
    clear h0 HRN C0
    go_wp2
    go_ret2
    exact ⟨rfl, by first | exact B0.out | (rw [← HN1.out]; exact B0.out)⟩
end Go.Proofs.YtnjhbblhlgpgdaaDoor

/- Dawg.Word: the word at a place; All: the iterator that is handed out. -/
namespace Go.Proofs.YtnjhbblhlgpgdaaDoor
open Go.RowKit Go.Shelf Go.Lib
attribute [local go_sem] Oper.semAt_some
set_option linter.unusedSimpArgs false
set_option linter.unusedVariables false

theorem enc_word {s : ByteArray} (hv : Lib.validD s.data.toList = true) : encErr (rnK s) = 0 ∧ (⟨(encS (rnK s)).toArray⟩ : ByteArray) = s := by
  have h1 : allRunes (rnK s) = true := List.all_eq_true.2 (items_runes _ hv)
  refine ⟨by rw [encErr, if_pos h1], ?_⟩
  rw [encS, if_pos h1]
  have := enc_items s.data.toList hv
  show (⟨(encL (items s.data.toList)).toArray⟩ : ByteArray) = s
  rw [this]
set_option maxRecDepth 100000 in
theorem word_out (w : World) (d : Nat) (Q : List Rst) (L : List Wrd) (h : DgAt w d Q L) (a : Int) (ha : a < 0 ∨ (L.length : Int) ≤ a) :
    Calls Tryd.prog 28 #[.pointer (some ⟨d, 0, none⟩), .int .i64 a] w fun e w' => e = .returned (.tuple #[.agg #[.string ⟨#[]⟩, .int .i64 0], .int .i64 2]) ∧ Below w.heap.size w w' := by
  have c1 := fun w' (hb : Below w.heap.size w w') => len_any w' d Q L (h.below hb)
  obtain ⟨n, hn⟩ : ∃ z, L.length = z := ⟨_, rfl⟩
  rw [hn] at c1 ha
  have HB0 : Hid (∀ o : Obj, Below w.heap.size w (w.alloc o)) := Lib.hid (fun o => bel_one w o)
  have C1 := Lib.hid c1
  clear c1 h hn
  by_cases h1 : a < 0
  · go_enter Tryd.func28, Tryd.ntmps28
    go_wp2
    refine bodyPost_ret (v := .tuple #[.agg #[.string ⟨#[]⟩, .int .i64 0], .int .i64 2]) ?_ rfl ⟨rfl, HB0.out _⟩
    simp [results, Tryd.f28, go_sem]
  · have h2 : (n : Int) ≤ a := by omega
    go_enter Tryd.func28, Tryd.ntmps28
    go_wp2_with fail
    refine (C1.out _ (HB0.out _)).mono ?_
    rintro e w1 ⟨rfl, e1⟩
    obtain rfl := e1
    go_wp2
    refine bodyPost_ret (v := .tuple #[.agg #[.string ⟨#[]⟩, .int .i64 0], .int .i64 2]) ?_ rfl ⟨rfl, HB0.out _⟩
    simp [results, Tryd.f28, go_sem]
theorem bx_set2 {w : World} {B : Nat} {t : TypeId} {a b : Value} (h : Bx w B t #[a, b]) (x y : Value) : Bx ((w.setCell ⟨B, 0, none⟩ x).setCell ⟨B, 1, none⟩ y) B t #[x, y] := z_set_cells (z_set_cells h 0 x) 1 y
theorem bel_set2 {n : Nat} {w w' : World} (h : Below n w w') (hn : n ≤ w'.heap.size) (B : Nat) (x y : Value) (hB : n ≤ B) : Below n w ((w'.setCell ⟨B, 0, none⟩ x).setCell ⟨B, 1, none⟩ y) :=
  bel_set (bel_set h hn B 0 x hB) (by simpa using hn) B 1 y hB
theorem z_w32 (a : Nat) (h : a ≤ 65536) : IntKind.i32.wrap (a : Int) = (a : Int) := by rw [IntKind.wrap_i32]; omega

set_option maxRecDepth 100000 in
set_option maxHeartbeats 8000000 in
theorem word_in (w : World) (d : Nat) (L : List Wrd) (hn : wisS L = 0) (Q : List Rst) (hQ : staQ (rnW L) = Q) (h : DgAt w d Q L) (i : Nat) (x : Wrd) (hx : L[i]? = some x) :
    Calls Tryd.prog 28 #[.pointer (some ⟨d, 0, none⟩), .int .i64 (i : Int)] w fun e w' => e = .returned (.tuple #[.agg #[.string x.1, .int .i64 x.2], .int .i64 0]) ∧ Below w.heap.size w w' := by
  have hl := (wisS_facts hn).2.2
  have hil := (List.getElem?_eq_some_iff.1 hx).1
  have hk : DgOk Q L := by rw [← hQ]; exact dgOk hn
  have hrn : (rnW L)[i]? = some (rnK x.1) := by unfold rnW; rw [List.getElem?_map, hx]; rfl
  obtain ⟨hf1, hf2, hf3⟩ := rnW_facts hn _ (List.mem_of_getElem? hrn)
  have hv := wchk_valid (wall_zero.1 (wisS_facts hn).1 x (List.mem_of_getElem? hx))
  obtain ⟨he1, he2⟩ := enc_word hv
  have hlr : (rnW L).length = L.length := by unfold rnW; rw [List.length_map]
  have c1 := fun w' (hb : Below w.heap.size w w') => len_any w' d Q L (h.below hb)
  have c2 := fun w' (hb : Below w.heap.size w w') => spelld_any w' d L (rnW L) (rnW_rising hn) Q hQ (h.below hb) hk (by rw [hlr]; exact hl) (rnK x.1) hf2 i hrn
  have c3 := fun w' v (hu : Runs w' v (rnK x.1)) => encode_any v (rnK x.1) w' hu (by omega) hf3
  rw [he1, he2] at c3
  obtain ⟨l, hll⟩ : ∃ z, rnK x.1 = z := ⟨_, rfl⟩
  rw [hll] at c2 c3
  obtain ⟨x1, x2⟩ := x
  simp only at c3 ⊢
  obtain ⟨n, hn'⟩ : ∃ z, L.length = z := ⟨_, rfl⟩
  rw [hn'] at c1 hl hil
  have HB0 : Hid (∀ o : Obj, Below w.heap.size w (w.alloc o)) := Lib.hid (fun o => bel_one w o)
  have HX0 : Hid (Bx (w.alloc (.cells #[.string ⟨#[]⟩, .int .i64 0] 55)) w.heap.size 55 #[.string ⟨#[]⟩, .int .i64 0]) := Lib.hid (bx_new _ _ _)
  have C1 := Lib.hid c1; have C2 := Lib.hid c2; have C3 := Lib.hid c3; have HD := Lib.hid h; have HXX := Lib.hid hx; have HN := Lib.hid hn'
  have wki := z_w32 i (by omega)
  have i1 : ¬ (i : Int) < 0 := by omega
  have i2 : ¬ (n : Int) ≤ (i : Int) := by omega
  have i3 : (i : Int) < (n : Int) := by omega
  clear c1 c2 c3 h hx hn hQ hk hrn hf1 hf2 hf3 hv he1 he2 hll hn' hlr
  go_enter Tryd.func28, Tryd.ntmps28
  go_wp2_with fail
  refine (C1.out _ (HB0.out _)).mono ?_
  rintro e w1 ⟨rfl, e1⟩
  obtain rfl := e1
  go_wp2_with fail
  refine (C2.out _ (HB0.out _)).mono ?_
  rintro e w2 ⟨v, rfl, hown, b2⟩
  have hr2 := Runs.of_own hown
  have hx2 := HX0.out.below b2
  have hb2 := (HB0.out _).trans (b2.mono (HB0.out _).size)
  have c3 := C3.out w2 v hr2
  have C4 := Lib.hid c3; have HX2 := Lib.hid hx2; have HB2 := Lib.hid hb2
  clear hown hr2 hx2 b2 hb2 c3 C1 C2 C3 HX0
  go_wp2_with fail
  refine C4.out.mono ?_
  rintro e w3 ⟨rfl, b3⟩
  have hx3 := HX2.out.below b3
  have hb3 := HB2.out.trans (b3.mono HB2.out.size)
  have hB := hx3.lt
  obtain ⟨As, cs, Ae, ce, Af, cf, _, _, cc, _, _, hfr⟩ := (HD.out.below hb3).parts
  obtain ⟨b, o, eA, hlt, hc⟩ := hfr.cells rfl (by rw [HN.out]; omega)
  subst eA
  rw [HN.out] at cc
  have g0 := hc i _ HXX.out 0 _ rfl
  simp only [Nat.mul_one, Nat.add_zero] at g0
  obtain ⟨k0, k1⟩ := hx3.two
  have f0 := hx3.thaw 0; have f1 := hx3.thaw 1
  have hz := bx_set2 hx3 (.string x1) (.int .i64 x2)
  have hbz := bel_set2 hb3 (by omega) w.heap.size (.string x1) (.int .i64 x2) (Nat.le_refl _)
  have HZ := Lib.hid hz; have HBZ := Lib.hid hbz
  clear hc hfr hx3 hb3 b3 hz hbz C4 HX2 HB2 HD HXX hlt
  go_wp2
  obtain ⟨q0, q1⟩ := HZ.out.two
  refine bodyPost_ret (v := .tuple #[.agg #[.string x1, .int .i64 x2], .int .i64 0]) ?_ rfl ⟨rfl, HBZ.out⟩
  simp [results, Tryd.f28, go_sem, q0, q1]
theorem all_made (p : Option Addr) (w : World) : Calls Tryd.prog 30 #[.pointer p] w fun e w' => e = .returned (.func (.func 51) #[] #[.pointer (some ⟨w.heap.size, 0, none⟩)]) ∧ w' = w.alloc (.cells #[.pointer p] 25) := by
  go_enter Tryd.func30, Tryd.ntmps30
  go_wp2
  go_ret
  exact ⟨rfl, rfl⟩
end Go.Proofs.YtnjhbblhlgpgdaaDoor

