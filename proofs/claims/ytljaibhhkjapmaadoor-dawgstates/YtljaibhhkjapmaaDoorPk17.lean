/- Texts that several proofs of this seat share, one behind the other: ZSpl ZWord UPart2. -/
import Derived.Test.YtljaibhhkjapmaaDoorPk16
import Derived.Test.YtljaibhhkjapmaaDoorPk10
import Derived.Test.YtljaibhhkjapmaaDoorPk5
import Derived.Test.YtljaibhhkjapmaaDoorPk4
/- Dawg.spell: the runes of the word at a place. -/
namespace Go.Proofs.YtljaibhhkjapmaaDoor
open Go.RowKit Go.Shelf Go.Lib
attribute [local go_sem] Oper.semAt_some
set_option linter.unusedSimpArgs false
set_option linter.unusedVariables false

theorem z_wrap_small (t : Nat) (h : t ≤ 6000000) : IntKind.i64.wrap (t : Int) = (t : Int) := by rw [IntKind.wrap_i64]; omega
theorem z_wrap_sub (iz : Int) (ia ah ib : Nat) (h : iz = (ia : Int)) (h2 : ah ≤ ia ∧ ia - ah = ib) (h3 : ia ≤ 65536) : IntKind.i32.wrap (iz - (ah : Int)) = (ib : Int) := by rw [IntKind.wrap_i32]; omega
def rnCell (r : Int) : List Value := [.int .i32 r]
theorem rn_ln (x : Int) : (rnCell x).length = 1 := rfl
theorem rn_one (x : Int) : ∀ u ∈ rnCell x, u.oneCell' = true := by
  intro u hu
  simp only [rnCell, List.mem_cons, List.mem_nil_iff, or_false] at hu
  subst hu; rfl
theorem rn_cells : ∀ l : List Int, gCells rnCell l = l.map (Value.int .i32)
  | [] => rfl
  | a :: l => by
    show rnCell a ++ gCells rnCell l = _
    rw [rn_cells l]; rfl
theorem stCell_ok (Q : List Rst) (s : Nat) : (stCell (staL Q s)).toArray = #[.int .i32 ((staL Q s).1 : Int), .int .i32 ((staL Q s).2.1 : Int), .bool (staL Q s).2.2] := rfl
/-- How long a row is that a value tells. -/
def zsl : Value → Nat
  | .slice _ n _ => n
  | _ => 0

set_option maxRecDepth 100000 in
set_option maxHeartbeats 16000000 in
theorem spelld_any (w : World) (d : Nat) (L : List Wrd) (W : Rst) (hW : W.Pairwise (· < ·)) (Q : List Rst) (hQ : staQ W = Q) (h : DgAt w d Q L) (hk : DgOk Q L) (hWl : W.length ≤ 65536) (l : List Int) (hl64 : l.length ≤ 64) (i : Nat) (hi : W[i]? = some l) :
    Calls Tryd.prog 111 #[.pointer (some ⟨d, 0, none⟩), .int .i32 (i : Int)] w fun e w' => ∃ v, e = .returned v ∧ w'.ownsRow w.heap.size 21 1 v l.length (l.map (Value.int .i32)) ∧ Below w.heap.size w w' := by
  obtain ⟨n1, hn1⟩ : ∃ z, w.heap.size = z := ⟨_, rfl⟩
  obtain ⟨n, hn⟩ : ∃ z, l.length = z := ⟨_, rfl⟩
  have hq0 : 0 < Q.length := hk.q0
  have c0 := state_any w d Q L h 0 hq0
  have hQ0 : Q[0]? = some W := by rw [← hQ]; exact staQ_zero W
  rw [stCell_ok] at c0
  obtain ⟨⟨u1, u2, u3⟩, hu⟩ : ∃ z, staL Q 0 = z := ⟨_, rfl⟩
  rw [hu] at c0
  simp only at c0
  have HWR := Lib.hid hW; have HQ := Lib.hid hQ; have HDG := Lib.hid h; have HKK0 := Lib.hid hk; have HI := Lib.hid hi; have HN := Lib.hid hn; have HN1 := Lib.hid hn1
  have HU := Lib.hid hu; have HQ0 := Lib.hid hQ0
  have hib : i ≤ 65536 := by have := (List.getElem?_eq_some_iff.1 hi).1; omega
  rw [← rn_cells, hn, hn1]
  rw [hn] at hl64
  have C0 : Hid (Calls Tryd.prog 50 #[.pointer (some ⟨d, 0, none⟩), .int .i64 0] w fun e w' => e = .returned (.agg #[.int .i32 (u1 : Int), .int .i32 (u2 : Int), .bool u3]) ∧ Below w.heap.size w w') := Lib.hid c0
  clear h hW hQ hk hi hn hn1 c0 hu hQ0 hq0
  go_enter Tryd.func111, Tryd.ntmps111
  go_wp2_with fail
  refine C0.out.mono ?_
  rintro e w1 ⟨rfl, b1⟩
  have hbx := bx_new w1 92 #[.int .i32 (u1 : Int), .int .i32 (u2 : Int), .bool u3]
  obtain ⟨B6, hB6⟩ : ∃ z, w1.heap.size = z := ⟨_, rfl⟩
  rw [hB6] at hbx
  have hb1 : Below w.heap.size w (w1.alloc (.cells #[.int .i32 (u1 : Int), .int .i32 (u2 : Int), .bool u3] 92)) := b1.alloc b1.size _
  have hBn : n1 ≤ B6 := by have := b1.size; have := HN1.out; omega
  have HX0 : Hid (∃ s1 s2 s3, staL Q 0 = (s1, s2, s3) ∧ Bx (w1.alloc (.cells #[.int .i32 (u1 : Int), .int .i32 (u2 : Int), .bool u3] 92)) B6 92 #[.int .i32 (s1 : Int), .int .i32 (s2 : Int), .bool s3]) := Lib.hid ⟨u1, u2, u3, HU.out, hbx⟩
  have HB0 := Lib.hid hb1
  have HR0 : Hid ((w1.alloc (.cells #[.int .i32 (u1 : Int), .int .i32 (u2 : Int), .bool u3] 92)).ownsRow n1 21 1 (.slice none 0 0) 0 (gCells rnCell (l.take 0))) := Lib.hid (World.ownsRow_nil _ _ _ _)
  have HBS := Lib.hid hB6
  clear hbx hb1 b1 hB6 C0
  go_wp2
  try rw [HBS.out]
  go_loopw [1, 5] (fun s1 s5 wr => ∃ (iz : Int) (j ia s : Nat) (v : Value), s1 = .int .i32 iz ∧ s5 = v ∧ j ≤ n ∧ ia ≤ 65536 ∧ Hid (iz = (ia : Int)) ∧ Hid (Q[s]? = some (behP W (l.take j)) ∧ (behP W (l.take j))[ia]? = some (l.drop j)) ∧
    Hid (∃ x1 x2 x3, staL Q s = (x1, x2, x3) ∧ Bx wr B6 92 #[.int .i32 (x1 : Int), .int .i32 (x2 : Int), .bool x3]) ∧ Hid (wr.ownsRow n1 21 1 v j (gCells rnCell (l.take j))) ∧ Hid (Below w.heap.size w wr)) (fun _ s5 _ => n - zsl s5)
  case atStart => exact ⟨_, 0, i, 0, _, rfl, rfl, Nat.zero_le _, hib, Lib.hid rfl, Lib.hid ⟨HQ0.out, HI.out⟩, HX0, HR0, HB0⟩
  case round =>
    clear HX0 HR0 HB0
    obtain ⟨iz, j, ia, s, v, rfl, rfl, hjn, hia, HIZ, HS, HX, HR, HB⟩ := hrel
    obtain ⟨hs1, hs2⟩ := HS.out
    obtain ⟨x1, x2, x3, hst, hbx⟩ := HX.out
    have hx3 : x3 = decide ([] ∈ behP W (l.take j)) := by have := staL_at hs1; rw [hst] at this; exact this
    have hend := spell_end HWR.out hs2
    obtain ⟨k0, k1, k2⟩ := hbx.three
    by_cases hd : l.drop j = []
    · obtain ⟨h0, hin⟩ := hend.2 hd
      have j0 : ¬ (0 : Int) < iz := by have := HIZ.out; omega
      have hx3t : x3 = true := by rw [hx3]; exact decide_eq_true hin
      subst hx3t
      have hj : j = n := by have := congrArg List.length hd; rw [List.length_drop, HN.out] at this; simp at this; omega
      subst hj
      have hlt : l.take j = l := List.take_of_length_le (by rw [HN.out]; exact Nat.le_refl _)
      have HF : Hid (wr.ownsRow n1 21 1 u5 j (gCells rnCell l)) := Lib.hid (by have := HR.out; rwa [hlt] at this)
      clear hs1 hs2 hst hbx hx3 hend hd hin hlt HS HX HR
      go_wp2
      go_ret
      exact ⟨_, rfl, HF.out, by rw [← HN1.out]; exact HB.out⟩
    · obtain ⟨r, t, hrt⟩ : ∃ r t, l.drop j = r :: t := List.exists_cons_of_ne_nil hd
      rw [hrt] at hs2
      obtain ⟨kk, q1, q2, q3, q4, q5, q6⟩ := spell_step HWR.out hs2 Q
      have hne : ¬ (ia = 0 ∧ [] ∈ behP W (l.take j)) := fun e => hd (hend.1 e)
      have hjl : j < n := by have := congrArg List.length hrt; rw [List.length_drop, HN.out] at this; simp at this; omega
      have hlj : l[j]? = some r := by have := congrArg (fun z => z[0]?) hrt; simpa using this
      have htk : l.take (j + 1) = l.take j ++ [r] := by rw [List.take_add_one, hlj]; rfl
      have htd : l.drop (j + 1) = t := by rw [← List.drop_drop, hrt]; rfl
      obtain ⟨x, hX⟩ : ∃ z, behP W (l.take j) = z := ⟨_, rfl⟩
      rw [hX] at hs1 hs2 q1 q2 q3 q4 q5 q6 hne hx3
      obtain ⟨to_, hto⟩ : ∃ z, Q.idxOf (behR x r) = z := ⟨_, rfl⟩
      obtain ⟨ah, hah⟩ : ∃ z, ahdR x r = z := ⟨_, rfl⟩
      rw [hto, hah] at q1
      rw [hah] at q4 q5
      obtain ⟨ib, hibb⟩ : ∃ z, ia - ah = z := ⟨_, rfl⟩
      rw [hibb] at q5
      have hnx : behP W (l.take j ++ [r]) ≠ [] := by rw [← place_step, hX]; exact q6
      have hqn : Q[to_]? = some (behP W (l.take (j + 1))) := by
        have := staQ_at (W := W) hnx
        rw [HQ.out] at this
        rw [htk, ← hto, ← hX, ← behP_snoc]
        exact this
      have hq5 : (behP W (l.take (j + 1)))[ib]? = some (l.drop (j + 1)) := by rw [htk, htd]; exact q5
      obtain ⟨hem, hev⟩ := edE_bound HKK0.out hs1
      have hto6 : to_ ≤ 6000000 := hev _ (List.mem_of_getElem? q1)
      have co := out_any wr d Q L (HDG.out.below HB.out) HKK0.out s x hs1
      rw [stCell_ok, hst] at co
      simp only at co
      have CO := Lib.hid co; have HEM := Lib.hid hem; have HKK := Lib.hid q1; have HK1 := Lib.hid q2; have HK2 := Lib.hid q3
      have HNX : Hid (Q[to_]? = some (behP W (l.take (j + 1))) ∧ (behP W (l.take (j + 1)))[ib]? = some (l.drop (j + 1))) := Lib.hid ⟨hqn, hq5⟩
      have HTK := Lib.hid htk
      have HAH : Hid (ah ≤ ia ∧ ia - ah = ib) := Lib.hid ⟨q4, hibb⟩
      have HX6 := Lib.hid hbx
      have wk : wrap64 (to_ : Int) = (to_ : Int) := by unfold wrap64; omega
      have hbsz : n1 ≤ wr.heap.size := by have := HB.out.size; have := HN1.out; omega
      have hcd : (0 < ia) ∨ (ia = 0 ∧ x3 = false) := by
        rcases Nat.eq_zero_or_pos ia with e | e
        · right
          refine ⟨e, ?_⟩
          rw [hx3]
          exact decide_eq_false (fun k => hne ⟨e, k⟩)
        · exact .inl e
      have HBL : Hid (B6 < wr.heap.size) := Lib.hid hbx.lt
      clear hs1 hs2 hst hbx hx3 hend hd hrt q1 q2 q3 q4 q5 q6 hibb hne hlj htd hto hah hnx hqn hq5 hem hev co HS HX htk hX
      have hgo : ∀ (wc : Unit), True := fun _ => trivial
      rcases hcd with h0 | ⟨h0, h3⟩
      · have j0 : (0 : Int) < iz := by have := HIZ.out; omega
        go_wp2_with fail
        clear j0
        refine (CO.out).mono ?_
        rintro e w2 ⟨v2, rfl, hg2, b2⟩
        obtain ⟨A2, c2', ev2⟩ := hg2.slice
        obtain ⟨n2, hn2⟩ : ∃ z, (edE Q x).length = z := ⟨_, rfl⟩
        rw [hn2] at ev2
        subst ev2
        have cl := last_any A2 n2 c2' (edE Q x) w2 hn2 hg2 (by rw [← hn2]; exact HEM.out) ia (by omega) kk _ HKK.out HK1.out HK2.out
        simp only [edCell] at cl
        rw [← HIZ.out] at cl
        have CL := Lib.hid cl
        have hbw2 := HB.out.trans (b2.mono HB.out.size)
        have hx2 := HX6.out.below b2
        have hr2 := z_own_below HR.out b2
        have HB2 := Lib.hid hbw2; have HX2 := Lib.hid hx2; have HR2 := Lib.hid hr2; have HD2 := Lib.hid (HDG.out.below hbw2)
        have hw2s := b2.size
        clear cl hbw2 hx2 hr2 b2 hg2 hn2 CO HB HX6 HR
        go_wp2_with fail
        refine CL.out.mono ?_
        rintro e w3 ⟨rfl, b3⟩
        have hbw3 := HB2.out.trans (b3.mono HB2.out.size)
        have hx3' := HX2.out.below b3
        have hr3 := z_own_below HR2.out b3
        have hal := bel_one w3 (.cells #[.int .i32 r, .int .i32 (to_ : Int), .int .i32 (ah : Int)] 95)
        have hx7 := bx_new w3 95 #[.int .i32 r, .int .i32 (to_ : Int), .int .i32 (ah : Int)]
        obtain ⟨B7, hB7⟩ : ∃ z, w3.heap.size = z := ⟨_, rfl⟩
        obtain ⟨W4, hW4⟩ : ∃ z, w3.alloc (.cells #[.int .i32 r, .int .i32 (to_ : Int), .int .i32 (ah : Int)] 95) = z := ⟨_, rfl⟩
        have h67 : B6 < B7 := by have := HX2.out.lt; have := b3.size; omega
        have hn17 : n1 ≤ B7 := by have := b3.size; omega
        have hb4 := hbw3.trans (hal.mono hbw3.size)
        rw [hW4] at hal hx7 hb4
        rw [hB7] at hx7
        have hx4 := hx3'.below hal
        have hr4 := z_own_below hr3 hal
        have hW4n : n1 ≤ W4.heap.size := by have := hal.size; omega
        obtain ⟨v9, w9, hrun, hown9, hgr9, hblk9⟩ := append_one (P := Tryd.prog) rn_ln rn_one info_n32 rfl (by decide) (by decide) Tryd.underlying84 W4 n1 _ j _ hr4 r hW4n (by omega)
        rw [← gCells_snoc, ← HTK.out] at hown9
        have hz5 : zsl u5 = j := by obtain ⟨A5, c5, e5⟩ := z_own_slice hr4; rw [e5]; rfl
        obtain ⟨A9, c9, e9⟩ := z_own_slice hown9
        subst e9
        have hb9 : Below n1 w w9 := by
          have e1 : Below n1 w W4 := by rw [← HN1.out]; exact hb4
          exact (e1.trans ((bel_one W4 (.cells (rnCell r).toArray 21)).mono hW4n)).grown hgr9 (by simp; omega) (fun k e => by
            rcases hr4.2 with ⟨e2, _⟩ | ⟨g, cap, cur, e2, hb, _⟩
            · rw [e2] at e; cases e
            · rw [e2] at e
              have : g = k := by simpa [Value.ownBlock] using e
              omega)
        have hb9' : Below w.heap.size w w9 := by rw [HN1.out]; exact hb9
        have hx9 : Bx w9 B6 92 _ := (hgr9.block B6 (by have := hx4.lt; simp; omega) (fun e => own_not_box hr4 hx4 (by decide) e.symm)).trans ((Below.heap_alloc _ _ _ hx4.lt).trans hx4)
        have hx79 : Bx w9 B7 95 _ := (hgr9.block B7 (by have := hx7.lt; simp; omega) (fun e => own_not_box hr4 hx7 (by decide) e.symm)).trans ((Below.heap_alloc _ _ _ hx7.lt).trans hx7)
        obtain ⟨e70, e71, e72⟩ := hx7.three
        obtain ⟨m0, m1, m2⟩ := hx79.three
        have hD9 : DgAt w9.drew d Q L := HDG.out.below (hb9'.trans ((Below.refl _ _).drew.mono hb9'.size))
        have hcs := state_any w9.drew d Q L hD9 to_ (List.getElem?_eq_some_iff.1 HNX.out.1).1
        rw [stCell_ok] at hcs
        obtain ⟨⟨t1, t2, t3⟩, htt⟩ : ∃ z, staL Q to_ = z := ⟨_, rfl⟩
        rw [htt] at hcs
        simp only at hcs
        have eg : ∀ args w, (callFunc 50 args).run Tryd.prog w = .ok (.enter 50 args) w := enters_of Tryd.func50 (by kernel_rfl) rfl
        have HCS := Lib.hid hcs; have HEG := Lib.hid eg; have HRUN := Lib.hid hrun; have HB9 := Lib.hid hb9; have HX9 := Lib.hid hx9; have HR9 := Lib.hid hown9; have HTT := Lib.hid htt; have HZ5 := Lib.hid hz5
        have HW4 := Lib.hid hW4; have HB7 := Lib.hid hB7
        clear hbw3 hx3' hr3 hal hx7 hB7 hW4 hb4 hx4 hr4 hrun hown9 hgr9 hblk9 hb9 hb9' hx9 hx79 hD9 hcs eg htt b3 HB2 HX2 HR2 HD2 CL hz5
        go_wp2_with (first
          | (rw [HW4.out, HB7.out])
          | (at_builtin; refine wpList_append_run (.tmp 22) (.tmp 25) 84 _ _ _ _ HRUN.out rfl rfl rfl rfl ?_))
        have wk2 := z_wrap_small to_ hto6
        have wib := z_wrap_sub iz ia ah ib HIZ.out HAH.out hia
        refine z_normal ?_
        refine wp_region_held_drew (S := fun wx => wx.cell? ⟨B7, 1, none⟩ = some (.int .i32 (to_ : Int)) ∧ wx.cell? ⟨B7, 2, none⟩ = some (.int .i32 (ah : Int))) (by kernel_rfl) ⟨m1, m2⟩ (fun hS => ?_)
        change wpAnyH _ _ _ _ _ 11 _ _ _
        refine wpAnyH_take (i := 0) (v := .pointer (some ⟨d, 0, none⟩)) rfl (by kernel_rfl) (by kernel_rfl) (by kernel_rfl) (fun _ _ _ h => h) (Or.inl ⟨by rfl, fun wy hy => by obtain ⟨y0, y1⟩ := hy; go_simp⟩) hS ?_
        refine wpAnyH_take (i := 1) (v := .pointer (some ⟨B7, 1, none⟩)) rfl (by kernel_rfl) (by kernel_rfl) (by kernel_rfl) (fun _ _ _ h => h) (Or.inl ⟨by rfl, fun wy hy => by obtain ⟨y0, y1⟩ := hy; go_simp⟩) hS ?_
        refine wpAnyH_take (i := 2) (v := .int .i32 (to_ : Int)) rfl (by kernel_rfl) (by kernel_rfl) (by kernel_rfl) (fun _ _ _ h => h) (Or.inl ⟨by rfl, fun wy hy => by obtain ⟨y0, y1⟩ := hy; go_simp⟩) hS ?_
        refine wpAnyH_take (i := 3) (v := .int .i64 (to_ : Int)) rfl (by kernel_rfl) (by kernel_rfl) (by kernel_rfl) (fun _ _ _ h => h) (Or.inl ⟨by rfl, fun wy hy => by obtain ⟨y0, y1⟩ := hy; go_simp⟩) hS ?_
        refine wpAnyH_take (i := 5) (v := .int .i32 iz) rfl (by kernel_rfl) (by kernel_rfl) (by kernel_rfl) (fun _ _ _ h => h) (Or.inl ⟨by rfl, fun wy hy => by obtain ⟨y0, y1⟩ := hy; go_simp⟩) hS ?_
        refine wpAnyH_take (i := 6) (v := .pointer (some ⟨B7, 2, none⟩)) rfl (by kernel_rfl) (by kernel_rfl) (by kernel_rfl) (fun _ _ _ h => h) (Or.inl ⟨by rfl, fun wy hy => by obtain ⟨y0, y1⟩ := hy; go_simp⟩) hS ?_
        refine wpAnyH_take (i := 7) (v := .int .i32 (ah : Int)) rfl (by kernel_rfl) (by kernel_rfl) (by kernel_rfl) (fun _ _ _ h => h) (Or.inl ⟨by rfl, fun wy hy => by obtain ⟨y0, y1⟩ := hy; go_simp⟩) hS ?_
        refine wpAnyH_take (i := 8) (v := .int .i32 (ib : Int)) rfl (by kernel_rfl) (by kernel_rfl) (by kernel_rfl) (fun _ _ _ h => h) (Or.inl ⟨by rfl, fun wy hy => by obtain ⟨y0, y1⟩ := hy; go_simp⟩) hS ?_
        refine wpAnyH_ready (rs := [4]) (by kernel_rfl) (by simp) ?_
        refine AllReadyH.cons rfl (fun K hK => ?_) AllReadyH.nil
        refine xstep_call2 rfl 50 (.tmp 27) (.tmp 30) 25 3 rfl HEG.out (by go_simp) (by go_simp) HCS.out ?_
        rintro e w10 ⟨rfl, b10⟩
        refine ⟨_, rfl, ?_⟩
        refine hK.out _ _ ⟨cell_keep b10 hS.1, cell_keep b10 hS.2⟩ (fun hS => ?_)
        have hx10 := (show Bx w9.drew B6 _ _ from HX9.out).below b10
        obtain ⟨f0, f1, f2⟩ := hx10.three
        have g0 := hx10.thaw 0; have g1 := hx10.thaw 1; have g2 := hx10.thaw 2
        have n67 : B7 ≠ B6 := by omega
        refine wpAnyH_ready (rs := [9]) (by kernel_rfl) (by simp) ?_
        refine AllReadyH.cons rfl (fun K hK => ?_) AllReadyH.nil
        go_simp
        refine hK.out _ _ ⟨(z_cell_set_ne _ _ _ _ _ _ n67).trans ((z_cell_set_ne _ _ _ _ _ _ n67).trans ((z_cell_set_ne _ _ _ _ _ _ n67).trans hS.1)), (z_cell_set_ne _ _ _ _ _ _ n67).trans ((z_cell_set_ne _ _ _ _ _ _ n67).trans ((z_cell_set_ne _ _ _ _ _ _ n67).trans hS.2))⟩ (fun hS => ?_)
        refine wpAnyH_take (i := 10) (v := .int .i32 (ib : Int)) rfl (by kernel_rfl) (by kernel_rfl) (by kernel_rfl) (fun _ _ _ h => h) (Or.inl ⟨by rfl, fun wy hy => by obtain ⟨y0, y1⟩ := hy; go_simp⟩) hS ?_
        refine wpAnyH_done (by kernel_rfl) ?_ _
        simp only [ZIn]
        have hb10 : Below n1 w w10 := HB9.out.trans ((show Below w9.heap.size w9 w10 from (Below.refl _ _).drew.trans b10).mono (by have := HX9.out.lt; omega))
        have hn10 : n1 ≤ w10.heap.size := by have := hx10.lt; omega
        have hr10 := z_own_below (show w9.drew.ownsRow n1 21 1 _ (j + 1) _ from z_own_below HR9.out (Below.refl _ _).drew) b10
        have a10 := own_not_box hr10 hx10 (by decide)
        have hxf := hx10.set3 (.int .i32 (t1 : Int)) (.int .i32 (t2 : Int)) (.bool t3)
        have hrf := ((hr10.kept (z_grown_set w10 B6 0 (.int .i32 (t1 : Int))) (.inr a10)).kept (z_grown_set _ B6 1 (.int .i32 (t2 : Int))) (.inr a10)).kept (z_grown_set _ B6 2 (.bool t3)) (.inr a10)
        have hbf := bel_set3 hb10 hn10 B6 (.int .i32 (t1 : Int)) (.int .i32 (t2 : Int)) (.bool t3) hBn
        have HXF := Lib.hid hxf; have HRF := Lib.hid hrf; have HBF := Lib.hid hbf
        clear hb10 hn10 hr10 a10 hxf hrf hbf hx10 f0 f1 f2 g0 g1 g2 b10 hS m0 m1 m2 HCS HRUN HX9 HR9 HB9
        simp only [Act.put, List.getElem_toArray, List.getElem_cons_zero, List.getElem_cons_succ, List.setIfInBounds_toArray, List.set_cons_succ, List.set_cons_zero]
        go_wp2
        exact ⟨⟨_, j + 1, ib, to_, _, rfl, rfl, by omega, by have := HAH.out; omega, Lib.hid rfl, HNX, Lib.hid ⟨t1, t2, t3, HTT.out, HXF.out⟩, HRF, Lib.hid (by rw [HN1.out]; exact HBF.out)⟩, by rw [HZ5.out]; simp only [zsl]; omega⟩
      · subst h3
        have j0 : ¬ (0 : Int) < iz := by have := HIZ.out; omega
        go_wp2_with fail
        clear j0
        refine (CO.out).mono ?_
        rintro e w2 ⟨v2, rfl, hg2, b2⟩
        obtain ⟨A2, c2', ev2⟩ := hg2.slice
        obtain ⟨n2, hn2⟩ : ∃ z, (edE Q x).length = z := ⟨_, rfl⟩
        rw [hn2] at ev2
        subst ev2
        have cl := last_any A2 n2 c2' (edE Q x) w2 hn2 hg2 (by rw [← hn2]; exact HEM.out) ia (by omega) kk _ HKK.out HK1.out HK2.out
        simp only [edCell] at cl
        rw [← HIZ.out] at cl
        have CL := Lib.hid cl
        have hbw2 := HB.out.trans (b2.mono HB.out.size)
        have hx2 := HX6.out.below b2
        have hr2 := z_own_below HR.out b2
        have HB2 := Lib.hid hbw2; have HX2 := Lib.hid hx2; have HR2 := Lib.hid hr2; have HD2 := Lib.hid (HDG.out.below hbw2)
        have hw2s := b2.size
        clear cl hbw2 hx2 hr2 b2 hg2 hn2 CO HB HX6 HR
        go_wp2_with fail
        refine CL.out.mono ?_
        rintro e w3 ⟨rfl, b3⟩
        have hbw3 := HB2.out.trans (b3.mono HB2.out.size)
        have hx3' := HX2.out.below b3
        have hr3 := z_own_below HR2.out b3
        have hal := bel_one w3 (.cells #[.int .i32 r, .int .i32 (to_ : Int), .int .i32 (ah : Int)] 95)
        have hx7 := bx_new w3 95 #[.int .i32 r, .int .i32 (to_ : Int), .int .i32 (ah : Int)]
        obtain ⟨B7, hB7⟩ : ∃ z, w3.heap.size = z := ⟨_, rfl⟩
        obtain ⟨W4, hW4⟩ : ∃ z, w3.alloc (.cells #[.int .i32 r, .int .i32 (to_ : Int), .int .i32 (ah : Int)] 95) = z := ⟨_, rfl⟩
        have h67 : B6 < B7 := by have := HX2.out.lt; have := b3.size; omega
        have hn17 : n1 ≤ B7 := by have := b3.size; omega
        have hb4 := hbw3.trans (hal.mono hbw3.size)
        rw [hW4] at hal hx7 hb4
        rw [hB7] at hx7
        have hx4 := hx3'.below hal
        have hr4 := z_own_below hr3 hal
        have hW4n : n1 ≤ W4.heap.size := by have := hal.size; omega
        obtain ⟨v9, w9, hrun, hown9, hgr9, hblk9⟩ := append_one (P := Tryd.prog) rn_ln rn_one info_n32 rfl (by decide) (by decide) Tryd.underlying84 W4 n1 _ j _ hr4 r hW4n (by omega)
        rw [← gCells_snoc, ← HTK.out] at hown9
        have hz5 : zsl u5 = j := by obtain ⟨A5, c5, e5⟩ := z_own_slice hr4; rw [e5]; rfl
        obtain ⟨A9, c9, e9⟩ := z_own_slice hown9
        subst e9
        have hb9 : Below n1 w w9 := by
          have e1 : Below n1 w W4 := by rw [← HN1.out]; exact hb4
          exact (e1.trans ((bel_one W4 (.cells (rnCell r).toArray 21)).mono hW4n)).grown hgr9 (by simp; omega) (fun k e => by
            rcases hr4.2 with ⟨e2, _⟩ | ⟨g, cap, cur, e2, hb, _⟩
            · rw [e2] at e; cases e
            · rw [e2] at e
              have : g = k := by simpa [Value.ownBlock] using e
              omega)
        have hb9' : Below w.heap.size w w9 := by rw [HN1.out]; exact hb9
        have hx9 : Bx w9 B6 92 _ := (hgr9.block B6 (by have := hx4.lt; simp; omega) (fun e => own_not_box hr4 hx4 (by decide) e.symm)).trans ((Below.heap_alloc _ _ _ hx4.lt).trans hx4)
        have hx79 : Bx w9 B7 95 _ := (hgr9.block B7 (by have := hx7.lt; simp; omega) (fun e => own_not_box hr4 hx7 (by decide) e.symm)).trans ((Below.heap_alloc _ _ _ hx7.lt).trans hx7)
        obtain ⟨e70, e71, e72⟩ := hx7.three
        obtain ⟨m0, m1, m2⟩ := hx79.three
        have hD9 : DgAt w9.drew d Q L := HDG.out.below (hb9'.trans ((Below.refl _ _).drew.mono hb9'.size))
        have hcs := state_any w9.drew d Q L hD9 to_ (List.getElem?_eq_some_iff.1 HNX.out.1).1
        rw [stCell_ok] at hcs
        obtain ⟨⟨t1, t2, t3⟩, htt⟩ : ∃ z, staL Q to_ = z := ⟨_, rfl⟩
        rw [htt] at hcs
        simp only at hcs
        have eg : ∀ args w, (callFunc 50 args).run Tryd.prog w = .ok (.enter 50 args) w := enters_of Tryd.func50 (by kernel_rfl) rfl
        have HCS := Lib.hid hcs; have HEG := Lib.hid eg; have HRUN := Lib.hid hrun; have HB9 := Lib.hid hb9; have HX9 := Lib.hid hx9; have HR9 := Lib.hid hown9; have HTT := Lib.hid htt; have HZ5 := Lib.hid hz5
        have HW4 := Lib.hid hW4; have HB7 := Lib.hid hB7
        clear hbw3 hx3' hr3 hal hx7 hB7 hW4 hb4 hx4 hr4 hrun hown9 hgr9 hblk9 hb9 hb9' hx9 hx79 hD9 hcs eg htt b3 HB2 HX2 HR2 HD2 CL hz5
        go_wp2_with (first
          | (rw [HW4.out, HB7.out])
          | (at_builtin; refine wpList_append_run (.tmp 22) (.tmp 25) 84 _ _ _ _ HRUN.out rfl rfl rfl rfl ?_))
        have wk2 := z_wrap_small to_ hto6
        have wib := z_wrap_sub iz ia ah ib HIZ.out HAH.out hia
        refine z_normal ?_
        refine wp_region_held_drew (S := fun wx => wx.cell? ⟨B7, 1, none⟩ = some (.int .i32 (to_ : Int)) ∧ wx.cell? ⟨B7, 2, none⟩ = some (.int .i32 (ah : Int))) (by kernel_rfl) ⟨m1, m2⟩ (fun hS => ?_)
        change wpAnyH _ _ _ _ _ 11 _ _ _
        refine wpAnyH_take (i := 0) (v := .pointer (some ⟨d, 0, none⟩)) rfl (by kernel_rfl) (by kernel_rfl) (by kernel_rfl) (fun _ _ _ h => h) (Or.inl ⟨by rfl, fun wy hy => by obtain ⟨y0, y1⟩ := hy; go_simp⟩) hS ?_
        refine wpAnyH_take (i := 1) (v := .pointer (some ⟨B7, 1, none⟩)) rfl (by kernel_rfl) (by kernel_rfl) (by kernel_rfl) (fun _ _ _ h => h) (Or.inl ⟨by rfl, fun wy hy => by obtain ⟨y0, y1⟩ := hy; go_simp⟩) hS ?_
        refine wpAnyH_take (i := 2) (v := .int .i32 (to_ : Int)) rfl (by kernel_rfl) (by kernel_rfl) (by kernel_rfl) (fun _ _ _ h => h) (Or.inl ⟨by rfl, fun wy hy => by obtain ⟨y0, y1⟩ := hy; go_simp⟩) hS ?_
        refine wpAnyH_take (i := 3) (v := .int .i64 (to_ : Int)) rfl (by kernel_rfl) (by kernel_rfl) (by kernel_rfl) (fun _ _ _ h => h) (Or.inl ⟨by rfl, fun wy hy => by obtain ⟨y0, y1⟩ := hy; go_simp⟩) hS ?_
        refine wpAnyH_take (i := 5) (v := .int .i32 iz) rfl (by kernel_rfl) (by kernel_rfl) (by kernel_rfl) (fun _ _ _ h => h) (Or.inl ⟨by rfl, fun wy hy => by obtain ⟨y0, y1⟩ := hy; go_simp⟩) hS ?_
        refine wpAnyH_take (i := 6) (v := .pointer (some ⟨B7, 2, none⟩)) rfl (by kernel_rfl) (by kernel_rfl) (by kernel_rfl) (fun _ _ _ h => h) (Or.inl ⟨by rfl, fun wy hy => by obtain ⟨y0, y1⟩ := hy; go_simp⟩) hS ?_
        refine wpAnyH_take (i := 7) (v := .int .i32 (ah : Int)) rfl (by kernel_rfl) (by kernel_rfl) (by kernel_rfl) (fun _ _ _ h => h) (Or.inl ⟨by rfl, fun wy hy => by obtain ⟨y0, y1⟩ := hy; go_simp⟩) hS ?_
        refine wpAnyH_take (i := 8) (v := .int .i32 (ib : Int)) rfl (by kernel_rfl) (by kernel_rfl) (by kernel_rfl) (fun _ _ _ h => h) (Or.inl ⟨by rfl, fun wy hy => by obtain ⟨y0, y1⟩ := hy; go_simp⟩) hS ?_
        refine wpAnyH_ready (rs := [4]) (by kernel_rfl) (by simp) ?_
        refine AllReadyH.cons rfl (fun K hK => ?_) AllReadyH.nil
        refine xstep_call2 rfl 50 (.tmp 27) (.tmp 30) 25 3 rfl HEG.out (by go_simp) (by go_simp) HCS.out ?_
        rintro e w10 ⟨rfl, b10⟩
        refine ⟨_, rfl, ?_⟩
        refine hK.out _ _ ⟨cell_keep b10 hS.1, cell_keep b10 hS.2⟩ (fun hS => ?_)
        have hx10 := (show Bx w9.drew B6 _ _ from HX9.out).below b10
        obtain ⟨f0, f1, f2⟩ := hx10.three
        have g0 := hx10.thaw 0; have g1 := hx10.thaw 1; have g2 := hx10.thaw 2
        have n67 : B7 ≠ B6 := by omega
        refine wpAnyH_ready (rs := [9]) (by kernel_rfl) (by simp) ?_
        refine AllReadyH.cons rfl (fun K hK => ?_) AllReadyH.nil
        go_simp
        refine hK.out _ _ ⟨(z_cell_set_ne _ _ _ _ _ _ n67).trans ((z_cell_set_ne _ _ _ _ _ _ n67).trans ((z_cell_set_ne _ _ _ _ _ _ n67).trans hS.1)), (z_cell_set_ne _ _ _ _ _ _ n67).trans ((z_cell_set_ne _ _ _ _ _ _ n67).trans ((z_cell_set_ne _ _ _ _ _ _ n67).trans hS.2))⟩ (fun hS => ?_)
        refine wpAnyH_take (i := 10) (v := .int .i32 (ib : Int)) rfl (by kernel_rfl) (by kernel_rfl) (by kernel_rfl) (fun _ _ _ h => h) (Or.inl ⟨by rfl, fun wy hy => by obtain ⟨y0, y1⟩ := hy; go_simp⟩) hS ?_
        refine wpAnyH_done (by kernel_rfl) ?_ _
        simp only [ZIn]
        have hb10 : Below n1 w w10 := HB9.out.trans ((show Below w9.heap.size w9 w10 from (Below.refl _ _).drew.trans b10).mono (by have := HX9.out.lt; omega))
        have hn10 : n1 ≤ w10.heap.size := by have := hx10.lt; omega
        have hr10 := z_own_below (show w9.drew.ownsRow n1 21 1 _ (j + 1) _ from z_own_below HR9.out (Below.refl _ _).drew) b10
        have a10 := own_not_box hr10 hx10 (by decide)
        have hxf := hx10.set3 (.int .i32 (t1 : Int)) (.int .i32 (t2 : Int)) (.bool t3)
        have hrf := ((hr10.kept (z_grown_set w10 B6 0 (.int .i32 (t1 : Int))) (.inr a10)).kept (z_grown_set _ B6 1 (.int .i32 (t2 : Int))) (.inr a10)).kept (z_grown_set _ B6 2 (.bool t3)) (.inr a10)
        have hbf := bel_set3 hb10 hn10 B6 (.int .i32 (t1 : Int)) (.int .i32 (t2 : Int)) (.bool t3) hBn
        have HXF := Lib.hid hxf; have HRF := Lib.hid hrf; have HBF := Lib.hid hbf
        clear hb10 hn10 hr10 a10 hxf hrf hbf hx10 f0 f1 f2 g0 g1 g2 b10 hS m0 m1 m2 HCS HRUN HX9 HR9 HB9
        simp only [Act.put, List.getElem_toArray, List.getElem_cons_zero, List.getElem_cons_succ, List.setIfInBounds_toArray, List.set_cons_succ, List.set_cons_zero]
        go_wp2
        exact ⟨⟨_, j + 1, ib, to_, _, rfl, rfl, by omega, by have := HAH.out; omega, Lib.hid rfl, HNX, Lib.hid ⟨t1, t2, t3, HTT.out, HXF.out⟩, HRF, Lib.hid (by rw [HN1.out]; exact HBF.out)⟩, by rw [HZ5.out]; simp only [zsl]; omega⟩
end Go.Proofs.YtljaibhhkjapmaaDoor

/- Dawg.Word: the word at a place; All: the iterator that is handed out. -/
namespace Go.Proofs.YtljaibhhkjapmaaDoor
open Go.RowKit Go.Shelf Go.Lib
attribute [local go_sem] Oper.semAt_some
set_option linter.unusedSimpArgs false
set_option linter.unusedVariables false

theorem enc_word {s : ByteArray} (hv : Lib.validD s.data.toList = true) : encErr (rnK s) = 0 ∧ (⟨(encS (rnK s)).toArray⟩ : ByteArray) = s := by
  have h1 : allRunes (rnK s) = true := List.all_eq_true.2 (items_runes _ hv)
  refine ⟨by rw [encErr, if_pos h1], ?_⟩
  rw [encS, if_pos h1]
  have := enc_items s.data.toList hv
  show (⟨(encL (items s.data.toList)).toArray⟩ : ByteArray) = s
  rw [this]
set_option maxRecDepth 100000 in
theorem word_out (w : World) (d : Nat) (Q : List Rst) (L : List Wrd) (h : DgAt w d Q L) (a : Int) (ha : a < 0 ∨ (L.length : Int) ≤ a) :
    Calls Tryd.prog 89 #[.pointer (some ⟨d, 0, none⟩), .int .i64 a] w fun e w' => e = .returned (.tuple #[.agg #[.string ⟨#[]⟩, .int .i64 0], .int .i64 2]) ∧ Below w.heap.size w w' := by
  have c1 := fun w' (hb : Below w.heap.size w w') => len_any w' d Q L (h.below hb)
  obtain ⟨n, hn⟩ : ∃ z, L.length = z := ⟨_, rfl⟩
  rw [hn] at c1 ha
  have HB0 : Hid (∀ o : Obj, Below w.heap.size w (w.alloc o)) := Lib.hid (fun o => bel_one w o)
  have C1 := Lib.hid c1
  clear c1 h hn
  by_cases h1 : a < 0
  · go_enter Tryd.func89, Tryd.ntmps89
    go_wp2
    refine bodyPost_ret (v := .tuple #[.agg #[.string ⟨#[]⟩, .int .i64 0], .int .i64 2]) ?_ rfl ⟨rfl, HB0.out _⟩
    simp [results, Tryd.f89, go_sem]
  · have h2 : (n : Int) ≤ a := by omega
    go_enter Tryd.func89, Tryd.ntmps89
    go_wp2_with fail
    refine (C1.out _ (HB0.out _)).mono ?_
    rintro e w1 ⟨rfl, e1⟩
    obtain rfl := e1
    go_wp2
    refine bodyPost_ret (v := .tuple #[.agg #[.string ⟨#[]⟩, .int .i64 0], .int .i64 2]) ?_ rfl ⟨rfl, HB0.out _⟩
    simp [results, Tryd.f89, go_sem]
theorem bx_set2 {w : World} {B : Nat} {t : TypeId} {a b : Value} (h : Bx w B t #[a, b]) (x y : Value) : Bx ((w.setCell ⟨B, 0, none⟩ x).setCell ⟨B, 1, none⟩ y) B t #[x, y] := z_set_cells (z_set_cells h 0 x) 1 y
theorem bel_set2 {n : Nat} {w w' : World} (h : Below n w w') (hn : n ≤ w'.heap.size) (B : Nat) (x y : Value) (hB : n ≤ B) : Below n w ((w'.setCell ⟨B, 0, none⟩ x).setCell ⟨B, 1, none⟩ y) :=
  bel_set (bel_set h hn B 0 x hB) (by simpa using hn) B 1 y hB
theorem z_w32 (a : Nat) (h : a ≤ 65536) : IntKind.i32.wrap (a : Int) = (a : Int) := by rw [IntKind.wrap_i32]; omega

set_option maxRecDepth 100000 in
set_option maxHeartbeats 8000000 in
theorem word_in (w : World) (d : Nat) (L : List Wrd) (hn : wisS L = 0) (Q : List Rst) (hQ : staQ (rnW L) = Q) (h : DgAt w d Q L) (i : Nat) (x : Wrd) (hx : L[i]? = some x) :
    Calls Tryd.prog 89 #[.pointer (some ⟨d, 0, none⟩), .int .i64 (i : Int)] w fun e w' => e = .returned (.tuple #[.agg #[.string x.1, .int .i64 x.2], .int .i64 0]) ∧ Below w.heap.size w w' := by
  have hl := (wisS_facts hn).2.2
  have hil := (List.getElem?_eq_some_iff.1 hx).1
  have hk : DgOk Q L := by rw [← hQ]; exact dgOk hn
  have hrn : (rnW L)[i]? = some (rnK x.1) := by unfold rnW; rw [List.getElem?_map, hx]; rfl
  obtain ⟨hf1, hf2, hf3⟩ := rnW_facts hn _ (List.mem_of_getElem? hrn)
  have hv := wchk_valid (wall_zero.1 (wisS_facts hn).1 x (List.mem_of_getElem? hx))
  obtain ⟨he1, he2⟩ := enc_word hv
  have hlr : (rnW L).length = L.length := by unfold rnW; rw [List.length_map]
  have c1 := fun w' (hb : Below w.heap.size w w') => len_any w' d Q L (h.below hb)
  have c2 := fun w' (hb : Below w.heap.size w w') => spelld_any w' d L (rnW L) (rnW_rising hn) Q hQ (h.below hb) hk (by rw [hlr]; exact hl) (rnK x.1) hf2 i hrn
  have c3 := fun w' v (hu : Runs w' v (rnK x.1)) => encode_any v (rnK x.1) w' hu (by omega) hf3
  rw [he1, he2] at c3
  obtain ⟨l, hll⟩ : ∃ z, rnK x.1 = z := ⟨_, rfl⟩
  rw [hll] at c2 c3
  obtain ⟨x1, x2⟩ := x
  simp only at c3 ⊢
  obtain ⟨n, hn'⟩ : ∃ z, L.length = z := ⟨_, rfl⟩
  rw [hn'] at c1 hl hil
  have HB0 : Hid (∀ o : Obj, Below w.heap.size w (w.alloc o)) := Lib.hid (fun o => bel_one w o)
  have HX0 : Hid (Bx (w.alloc (.cells #[.string ⟨#[]⟩, .int .i64 0] 72)) w.heap.size 72 #[.string ⟨#[]⟩, .int .i64 0]) := Lib.hid (bx_new _ _ _)
  have C1 := Lib.hid c1; have C2 := Lib.hid c2; have C3 := Lib.hid c3; have HD := Lib.hid h; have HXX := Lib.hid hx; have HN := Lib.hid hn'
  have wki := z_w32 i (by omega)
  have i1 : ¬ (i : Int) < 0 := by omega
  have i2 : ¬ (n : Int) ≤ (i : Int) := by omega
  have i3 : (i : Int) < (n : Int) := by omega
  clear c1 c2 c3 h hx hn hQ hk hrn hf1 hf2 hf3 hv he1 he2 hll hn' hlr
  go_enter Tryd.func89, Tryd.ntmps89
  go_wp2_with fail
  refine (C1.out _ (HB0.out _)).mono ?_
  rintro e w1 ⟨rfl, e1⟩
  obtain rfl := e1
  go_wp2_with fail
  refine (C2.out _ (HB0.out _)).mono ?_
  rintro e w2 ⟨v, rfl, hown, b2⟩
  have hr2 := Runs.of_own hown
  have hx2 := HX0.out.below b2
  have hb2 := (HB0.out _).trans (b2.mono (HB0.out _).size)
  have c3 := C3.out w2 v hr2
  have C4 := Lib.hid c3; have HX2 := Lib.hid hx2; have HB2 := Lib.hid hb2
  clear hown hr2 hx2 b2 hb2 c3 C1 C2 C3 HX0
  go_wp2_with fail
  refine C4.out.mono ?_
  rintro e w3 ⟨rfl, b3⟩
  have hx3 := HX2.out.below b3
  have hb3 := HB2.out.trans (b3.mono HB2.out.size)
  have hB := hx3.lt
  obtain ⟨As, cs, Ae, ce, Af, cf, _, _, cc, _, _, hfr⟩ := (HD.out.below hb3).parts
  obtain ⟨b, o, eA, hlt, hc⟩ := hfr.cells rfl (by rw [HN.out]; omega)
  subst eA
  rw [HN.out] at cc
  have g0 := hc i _ HXX.out 0 _ rfl
  simp only [Nat.mul_one, Nat.add_zero] at g0
  obtain ⟨k0, k1⟩ := hx3.two
  have f0 := hx3.thaw 0; have f1 := hx3.thaw 1
  have hz := bx_set2 hx3 (.string x1) (.int .i64 x2)
  have hbz := bel_set2 hb3 (by omega) w.heap.size (.string x1) (.int .i64 x2) (Nat.le_refl _)
  have HZ := Lib.hid hz; have HBZ := Lib.hid hbz
  clear hc hfr hx3 hb3 b3 hz hbz C4 HX2 HB2 HD HXX hlt
  go_wp2
  obtain ⟨q0, q1⟩ := HZ.out.two
  refine bodyPost_ret (v := .tuple #[.agg #[.string x1, .int .i64 x2], .int .i64 0]) ?_ rfl ⟨rfl, HBZ.out⟩
  simp [results, Tryd.f89, go_sem, q0, q1]
end Go.Proofs.YtljaibhhkjapmaaDoor

/- walk.partings, walked. -/
namespace Go.Proofs.YtljaibhhkjapmaaDoor
open Go.RowKit Go.Shelf
attribute [local go_sem] Oper.semAt_some
set_option linter.unusedSimpArgs false
set_option linter.unusedVariables false

/-- How many ends are still to be told. -/
def uptMu (a : Act) (w : World) : Nat := match a.tmps.getD 6 undef with
  | .pointer (some p) => ((intOf ((w.cell? p).getD undef)) + 1).toNat
  | _ => 0
theorem upt_mu {a : Act} {w : World} {p : Addr} {z : Int} (h : a.tmps.getD 6 undef = .pointer (some p)) (hc : w.cell? p = some (.int .i64 z)) : uptMu a w = (z + 1).toNat := by
  unfold uptMu
  rw [h]
  simp [hc, intOf]
set_option maxRecDepth 100000 in
set_option maxHeartbeats 32000000 in
theorem upart_any (w : World) (d : Nat) (L : List Wrd) (W : Rst) (hW : W.Pairwise (· < ·)) (h0 : [] ∉ W) (Q : List Rst) (hQ : staQ W = Q) (hk : DgOk Q L) (h : DgAt w d Q L) (A : Option Addr) (N c : Nat) (l : List Int) (hN : l.length = N) (hl : N ≤ 64) (hv : Runs w (.slice A N c) l) :
    Calls Tryd.prog 61 #[.pointer (some ⟨d, 0, none⟩), .slice A N c] w fun e w' => ∃ G, e = .returned (.slice (some ⟨G, 0, none⟩) (N + 1) (N + 1)) ∧ PRow w' G (prt W l) ∧ Below w.heap.size w w' ∧ w.heap.size ≤ G := by
  obtain ⟨n0, hn0⟩ : ∃ z, w.heap.size = z := ⟨_, rfl⟩
  have hmk := make_pts w (N + 1) (by omega)
  have hz : ((N + 1 : Nat) : Int) = (N : Int) + 1 := by omega
  rw [hz] at hmk
  have hrow : PRow (w.alloc (.cells (gCells ptCell (List.replicate (N + 1) (0, 0))).toArray 117)) n0 (fillP W l N) := by
    have e := fillP_all W l
    rw [hN] at e
    rw [e, ← hn0]
    exact bx_new _ _ _
  have b1 := bel_one w (.cells (gCells ptCell (List.replicate (N + 1) (0, 0))).toArray 117)
  obtain ⟨w1, hw1⟩ : ∃ z, w.alloc (.cells (gCells ptCell (List.replicate (N + 1) (0, 0))).toArray 117) = z := ⟨_, rfl⟩
  have hs1 : w1.heap.size = n0 + 1 := by rw [← hw1, ← hn0]; simp
  rw [hw1] at hmk hrow b1
  rw [hn0] at hmk b1 ⊢
  -- the boxes of the slice and of the place
  have xs := Boxed.new w1 114 (.slice (some ⟨n0, 0, none⟩) (N + 1) (N + 1))
  have b2 := b1.alloc (show n0 ≤ w1.heap.size by omega) (.cells #[.slice (some ⟨n0, 0, none⟩) (N + 1) (N + 1)] 114)
  have hrow2 := hrow.below (bel_one w1 (.cells #[.slice (some ⟨n0, 0, none⟩) (N + 1) (N + 1)] 114))
  obtain ⟨w2, hw2⟩ : ∃ z, w1.alloc (.cells #[.slice (some ⟨n0, 0, none⟩) (N + 1) (N + 1)] 114) = z := ⟨_, rfl⟩
  have hs2 : w2.heap.size = n0 + 2 := by rw [← hw2]; simp; omega
  rw [hw2] at xs b2 hrow2
  rw [hs1] at xs
  have hsub : IntKind.i64.wrap ((N : Int) - 1) = (N : Int) - 1 := by rw [IntKind.wrap_i64]; omega
  have hadd : IntKind.i64.wrap ((N : Int) + 1) = (N : Int) + 1 := by rw [IntKind.wrap_i64]; omega
  have hsub2 : wrap64 ((N : Int) - 1) = (N : Int) - 1 := by unfold wrap64; omega
  have hadd2 : wrap64 ((N : Int) + 1) = (N : Int) + 1 := by unfold wrap64; omega
  have xf := Boxed.new w2 3 (.int .i64 ((N : Int) - 1))
  have b3 := b2.alloc (show n0 ≤ w2.heap.size by omega) (.cells #[.int .i64 ((N : Int) - 1)] 3)
  have hrow3 := hrow2.below (bel_one w2 (.cells #[.int .i64 ((N : Int) - 1)] 3))
  have xs3 := xs.alloc (.cells #[.int .i64 ((N : Int) - 1)] 3)
  obtain ⟨w3, hw3⟩ : ∃ z, w2.alloc (.cells #[.int .i64 ((N : Int) - 1)] 3) = z := ⟨_, rfl⟩
  have hs3 : w3.heap.size = n0 + 3 := by rw [← hw3]; simp; omega
  rw [hw3] at xf b3 hrow3 xs3
  rw [hs2] at xf
  have HMK := Lib.hid hmk; have XS := Lib.hid xs3; have XF := Lib.hid xf; have HROW := Lib.hid hrow3; have B3 := Lib.hid b3; have HW1 := Lib.hid hw1; have HW2 := Lib.hid hw2; have HW3 := Lib.hid hw3; have HN0 := Lib.hid hn0; have HS1 := Lib.hid hs1; have HS2 := Lib.hid hs2; have HS3 := Lib.hid hs3
  have HN := Lib.hid hN; have HV := Lib.hid hv; have HD := Lib.hid h; have HQ := Lib.hid hQ; have HR := Lib.hid hW; have HK := Lib.hid hk; have H0 := Lib.hid h0
  clear hrow xs xs3 xf hrow2 hrow3 b1 b2 b3 hw1 hw2 hw3 hs1 hs2 hs3 hN hv h hQ hW hk h0 hz hn0
  refine (callsIn_wide (n := 6)).1 ?_
  refine callsIn_of_wp_marks Tryd.func61 rfl trivial ?_ rfl
  simp only [Tryd.ntmps61, List.size_toArray, List.length_cons, List.length_nil, Nat.reduceAdd, Nat.reduceSub, Array.replicate_succ, Array.replicate_zero, List.push_toArray, List.append_toArray, List.nil_append, List.cons_append]
  gi_wp2
  rw [HW2.out, HS1.out, HW3.out]
  refine wpIn_loop (fun a' w' => ∃ (k B6 : Nat) (Ds : List Nat) (u7 u8 u9 u17 u18 u19 u20 u21 u22 u23 u24 u25 u26 u27 u28 u29 u30 u31 u32 u33 u34 u35 u36 u37 u38 u39 u40 u41 u42 u43 u44 u45 u46 u47 u48 : Value), (k ≤ N ∧ n0 + 1 < B6 ∧ Hid (Boxed w' (n0 + 1) 114 (.slice (some ⟨n0, 0, none⟩) (N + 1) (N + 1))) ∧ Hid (Boxed w' B6 3 (.int .i64 ((k : Int) - 1))) ∧ Hid (PRow w' n0 (fillP W l k)) ∧ Hid (Below n0 w w') ∧ Hid (ZMarks n0 w' Ds)) ∧ a' = { tmps := #[.pointer (some ⟨d, 0, none⟩), .slice A N c, undef, undef, .slice none 0 0, .pointer (some ⟨n0 + 1, 0, none⟩), .pointer (some ⟨B6, 0, none⟩), u7, u8, u9, .slice A N c, .int .i64 (N : Int), .int .i64 ((N : Int) + 1), .slice (some ⟨n0, 0, none⟩) (N + 1) (N + 1), .slice A N c, .int .i64 (N : Int), .int .i64 ((N : Int) - 1), u17, u18, u19, u20, u21, u22, u23, u24, u25, u26, u27, u28, u29, u30, u31, u32, u33, u34, u35, u36, u37, u38, u39, u40, u41, u42, u43, u44, u45, u46, u47, u48], defers := Ds.map zkD })
    uptMu ?_ ?_
  · exact ⟨N, n0 + 2, [], _, _, _, _, _, _, _, _, _, _, _, _, _, _, _, _, _, _, _, _, _, _, _, _, _, _, _, _, _, _, _, _, _, _, _, ⟨Nat.le_refl _, by omega, XS, XF, HROW, B3, Lib.hid ⟨List.nodup_nil, fun D hD => by cases hD⟩⟩, rfl⟩
  rintro a' wr ⟨k, B6, Ds, h⟩
  obtain ⟨u7, h⟩ := h
  obtain ⟨u8, h⟩ := h
  obtain ⟨u9, h⟩ := h
  obtain ⟨u17, h⟩ := h
  obtain ⟨u18, h⟩ := h
  obtain ⟨u19, h⟩ := h
  obtain ⟨u20, h⟩ := h
  obtain ⟨u21, h⟩ := h
  obtain ⟨u22, h⟩ := h
  obtain ⟨u23, h⟩ := h
  obtain ⟨u24, h⟩ := h
  obtain ⟨u25, h⟩ := h
  obtain ⟨u26, h⟩ := h
  obtain ⟨u27, h⟩ := h
  obtain ⟨u28, h⟩ := h
  obtain ⟨u29, h⟩ := h
  obtain ⟨u30, h⟩ := h
  obtain ⟨u31, h⟩ := h
  obtain ⟨u32, h⟩ := h
  obtain ⟨u33, h⟩ := h
  obtain ⟨u34, h⟩ := h
  obtain ⟨u35, h⟩ := h
  obtain ⟨u36, h⟩ := h
  obtain ⟨u37, h⟩ := h
  obtain ⟨u38, h⟩ := h
  obtain ⟨u39, h⟩ := h
  obtain ⟨u40, h⟩ := h
  obtain ⟨u41, h⟩ := h
  obtain ⟨u42, h⟩ := h
  obtain ⟨u43, h⟩ := h
  obtain ⟨u44, h⟩ := h
  obtain ⟨u45, h⟩ := h
  obtain ⟨u46, h⟩ := h
  obtain ⟨u47, h⟩ := h
  obtain ⟨u48, h⟩ := h
  obtain ⟨⟨hkN, hB6, HXS, HXF, HRW, HBL, HMS⟩, rfl⟩ := h
  have cf := HXF.out.cell
  have cs := HXS.out.cell
  by_cases hk : 0 < k
  · obtain ⟨f, rfl⟩ : ∃ f, k = f + 1 := ⟨k - 1, by omega⟩
    have ef : ((f + 1 : Nat) : Int) - 1 = (f : Int) := by omega
    rw [ef] at cf HXF
    have i1 : (0 : Int) ≤ (f : Int) := by omega
    obtain ⟨B7, hB7⟩ : ∃ z, wr.heap.size = z := ⟨_, rfl⟩
    have hn7 : n0 ≤ B7 := by have := HBL.out.size; have := HXF.out.lt; omega
    have hl6 : B6 < B7 := by rw [← hB7]; exact HXF.out.lt
    have hvr : Runs wr (.slice A N c) l := HV.out.below (HN0.out.symm ▸ HBL.out)
    obtain ⟨hsl, hvs⟩ := slice_l32 hvr HN.out f (by omega)
    have x7 := bx_new wr 117 #[.int .i64 65, .int .i64 0]
    have b7 := bel_one wr (.cells #[.int .i64 65, .int .i64 0] 117)
    have cf7 := cell_keep b7 cf
    obtain ⟨w7, hw7⟩ : ∃ z, wr.alloc (.cells #[.int .i64 65, .int .i64 0] 117) = z := ⟨_, rfl⟩
    have hs7 : w7.heap.size = B7 + 1 := by rw [← hw7, ← hB7]; simp
    obtain ⟨hsl7, _⟩ := slice_l32 (hvr.below b7) HN.out f (by omega)
    rw [hw7] at x7 b7
    have eqa := words_fn (some ⟨d, 0, none⟩) (cutA A c f) (N - f) (c - f) w7
    have b9 := b7.trans ((bel_two w7 (.cells #[.pointer (some ⟨d, 0, none⟩)] 25) (.cells #[.slice (cutA A c f) (N - f) (c - f)] 84)).mono b7.size)
    have xd := (Boxed.new w7 25 (.pointer (some ⟨d, 0, none⟩))).alloc (.cells #[.slice (cutA A c f) (N - f) (c - f)] 84)
    have xl := Boxed.new (w7.alloc (.cells #[.pointer (some ⟨d, 0, none⟩)] 25)) 84 (.slice (cutA A c f) (N - f) (c - f))
    have x9 := x7.below (bel_two w7 (.cells #[.pointer (some ⟨d, 0, none⟩)] 25) (.cells #[.slice (cutA A c f) (N - f) (c - f)] 84))
    have hs9 : ((w7.alloc (.cells #[.pointer (some ⟨d, 0, none⟩)] 25)).alloc (.cells #[.slice (cutA A c f) (N - f) (c - f)] 84)).heap.size = B7 + 3 := by simp [hs7]
    rw [World.size_alloc] at xl
    obtain ⟨w9, hw9⟩ : ∃ z, (w7.alloc (.cells #[.pointer (some ⟨d, 0, none⟩)] 25)).alloc (.cells #[.slice (cutA A c f) (N - f) (c - f)] 84) = z := ⟨_, rfl⟩
    rw [hw9] at eqa b9 xd xl x9 hs9
    rw [hs7] at eqa xd xl
    rw [hB7] at x9 b9
    have EQA := Lib.hid eqa; have HW7 := Lib.hid hw7; have HB7 := Lib.hid hB7; have XD := Lib.hid xd; have XL := Lib.hid xl; have X9 := Lib.hid x9; have B9 := Lib.hid b9; have HS9 := Lib.hid hs9; have HVR := Lib.hid hvr; have HVS := Lib.hid hvs
    clear eqa hw7 hB7 xd xl x9 b9 hs9 hvr hvs x7 b7 hw9 hs7
    gi_wp2_with (first
      | (refine ⟨trivial, ?_⟩; gi_at_call 58; rw [HW7.out]; refine (callsIn_wide.2 EQA.out).mono ?_; rintro e w' ⟨rfl, e1⟩; obtain rfl := e1.symm))
    rw [HB7.out]
    have hs9 := HS9.out
    have hlen : (l.drop f).length = N - f := by rw [List.length_drop, HN.out]
    refine wp_range_priv3 (by decide) (gf := 87) (lb := #[.pointer (some ⟨B7 + 1, 0, none⟩), .pointer (some ⟨B7 + 1 + 1, 0, none⟩)]) rfl (enters_of Tryd.func87 (by kernel_rfl) rfl)
      (words_seq (B7 + 1) (B7 + 1 + 1) B7 d (N - f) (cutA A c f) (c - f) (l.drop f) hlen (by omega) L W HR.out Q HQ.out HK.out wr HB7.out (HD.out.below (HN0.out.symm ▸ HBL.out)) HVS.out w9 (by omega) B9.out (by omega) (by omega) XD.out.cell XL.out.cell) Keep2.trans (keep2_b (by omega) (by omega) (by omega)) (Below.refl _ _) (fun _ => rfl)
      (fun (pre : List (WdI W (l.drop f))) Wx => Bx Wx B7 117 #[.int .i64 ((accU W (l.drop f) (wdL pre)).1 : Int), .int .i64 ((accU W (l.drop f) (wdL pre)).2 : Int)] ∧ Below B7 wr Wx)
      (fun pre X Y row hI hg hr => by
        obtain ⟨h1, h2⟩ := hI
        have hlt := Bx.lt h1
        have hne : ∀ k, k < w9.heap.size → some k ≠ row := fun k hk e => by have := (hr k e.symm).1; omega
        exact ⟨(hg.block B7 hlt (hne _ (by omega))).trans h1, h2.trans ⟨hg.os, hg.tape, hg.output, hg.size, fun k hk => hg.block k (by omega) (hne _ (by omega))⟩⟩)
      (fun pre X Y hI hs hp => ⟨(hp.1.block B7 (by omega)).trans hI.1, hI.2.trans (hp.1.mono (by omega))⟩) ⟨X9.out, B9.out⟩
      (fun x => { tmps := #[.pointer (some ⟨d, 0, none⟩), .slice A N c, undef, undef, .slice none 0 0, .pointer (some ⟨n0 + 1, 0, none⟩), .pointer (some ⟨B6, 0, none⟩), .pointer (some ⟨B7, 0, none⟩), .int .i64 (x.val : Int), u9, .slice A N c, .int .i64 (N : Int), .int .i64 ((N : Int) + 1), .slice (some ⟨n0, 0, none⟩) (N + 1) (N + 1), .slice A N c, .int .i64 (N : Int), .int .i64 ((N : Int) - 1), .int .i64 (f : Int), .bool true, u19, u20, .agg #[.int .i64 65, .int .i64 0], .pointer (some ⟨d, 0, none⟩), .slice A N c, .int .i64 (f : Int), .slice (cutA A c f) (N - f) (c - f), .func (.func 87) #[] #[.pointer (some ⟨B7 + 1, 0, none⟩), .pointer (some ⟨B7 + 1 + 1, 0, none⟩)], .int .i64 (x.val : Int), u28, u29, u30, u31, u32, u33, u34, u35, u36, u37, u38, u39, u40, u41, u42, u43, u44, u45, u46, u47, u48], defers := [] })
      ?assign ?body ?done
    case assign =>
      intro lp x W' K hK
      gi_wp2
      exact hK
    case body =>
      intro lp pre x W' hsz hI hlt
      obtain ⟨hE, hBw⟩ := hI
      have hbw : Below wr.heap.size wr W' := HB7.out.symm ▸ hBw
      have cs' := cell_keep hbw cs
      have cf' := cell_keep hbw cf
      have hrw := HRW.out.below hbw
      obtain ⟨hx1, hx2⟩ := x.property
      have hxp : 0 < x.val := wrdN_pos H0.out (mem_wrdN.2 ⟨hx1, hx2⟩)
      replace hx1 : x.val ≤ N - f := Nat.le_trans hx1 (Nat.le_of_eq hlen)
      have hat := fillP_at W l (k := f + 1) (i := f + x.val) (by omega) (by rw [HN.out]; omega)
      have hc65 := cut_le H0.out (l.drop (f + x.val))
      have hsn := accU_snoc W (l.drop f) (wdL pre) x.val
      rw [← wdL_snoc] at hsn
      unfold cutU at hsn
      simp only [List.drop_drop] at hsn
      obtain ⟨xv, hxv⟩ : ∃ z, x.val = z := ⟨_, rfl⟩
      simp only [hxv] at hat hc65 hsn hx1 hxp ⊢
      obtain ⟨q, hq⟩ : ∃ q, f + xv = q := ⟨_, rfl⟩
      rw [hq] at hat hc65 hsn
      obtain ⟨⟨cv, cv2⟩, hcv⟩ : ∃ z, cut W (l.drop q) = z := ⟨_, rfl⟩
      rw [hcv] at hat hc65
      obtain ⟨g0, g1⟩ := pt_at hrw hat
      simp only at g0 g1 hc65
      have hab := accU_bound W (l.drop f) (wdL pre)
      obtain ⟨⟨a1, a2⟩, hacc⟩ : ∃ z, accU W (l.drop f) (wdL pre) = z := ⟨_, rfl⟩
      rw [hacc] at hE hsn hab
      simp only at hE hab
      have hsn2 : accU W (l.drop f) (wdL (pre ++ [x])) = if 1 + cv ≤ a1 then (1 + cv, xv) else (a1, a2) := by
        rw [hsn, hcv]
      obtain ⟨e0, e1⟩ := Bx.two hE
      have f0 := Bx.thaw hE 0; have f1 := Bx.thaw hE 1
      have wk1 : IntKind.i64.wrap ((f : Int) + (xv : Int)) = (q : Int) := by rw [IntKind.wrap_i64]; omega
      have wk2 : IntKind.i64.wrap (1 + (cv : Int)) = ((1 + cv : Nat) : Int) := by rw [IntKind.wrap_i64]; omega
      obtain ⟨al, hal⟩ : ∃ z, 1 + cv = z := ⟨_, rfl⟩
      rw [hal] at wk2 hsn2
      have j1 : (q : Int) < (N : Int) + 1 := by omega
      have j2 : (0 : Int) ≤ (q : Int) := by omega
      have HE := Lib.hid hE; have HBw := Lib.hid hBw
      clear hat hsn hacc hcv hx2 hE hBw hbw hrw hsz hlt hx1 hc65 hab hq hal
      by_cases hle : al ≤ a1
      · rw [if_pos hle] at hsn2
        have k1 : (al : Int) ≤ (a1 : Int) := by omega
        have HBN : Hid (Bx ((W'.setCell ⟨B7, 0, none⟩ (.int .i64 (al : Int))).setCell ⟨B7, 1, none⟩ (.int .i64 (xv : Int))) B7 117 #[.int .i64 ((accU W (l.drop f) (wdL (pre ++ [x]))).1 : Int), .int .i64 ((accU W (l.drop f) (wdL (pre ++ [x]))).2 : Int)]) := Lib.hid (by rw [hsn2]; exact bx_set2 HE.out _ _)
        have HBL2 := Lib.hid ((HBw.out.setCell (p := ⟨B7, 0, none⟩) (Nat.le_refl _) (.int .i64 (al : Int))).setCell (p := ⟨B7, 1, none⟩) (Nat.le_refl _) (.int .i64 (xv : Int)))
        clear hsn2
        gi_wp2
        exact ⟨((KeepsOthers.setCell _ _ _).from _).trans ((KeepsOthers.setCell _ _ _).from _), fun k h1 h2 => (Below.heap_setCell _ _ _ _ (by simp; omega)).trans (Below.heap_setCell _ _ _ _ (by simp; omega)), ⟨((Below.refl _ _).setCell (p := ⟨B7, 0, none⟩) (Nat.le_refl _) _).setCell (p := ⟨B7, 1, none⟩) (Nat.le_refl _) _, (Below.heap_setCell _ _ _ _ (by simp)).trans (Below.heap_setCell _ _ _ _ (by simp)), (Below.heap_setCell _ _ _ _ (by simp <;> omega)).trans (Below.heap_setCell _ _ _ _ (by simp <;> omega))⟩, HBN.out, HBL2.out⟩
      · rw [if_neg hle] at hsn2
        have k1 : ¬ (al : Int) ≤ (a1 : Int) := by omega
        have HBN : Hid (Bx W' B7 117 #[.int .i64 ((accU W (l.drop f) (wdL (pre ++ [x]))).1 : Int), .int .i64 ((accU W (l.drop f) (wdL (pre ++ [x]))).2 : Int)]) := Lib.hid (by rw [hsn2]; exact HE.out)
        clear hsn2
        gi_wp2
        exact ⟨KeepsFrom.refl _ _, fun k h1 h2 => rfl, Keep2.refl _ _ _ _, HBN.out, HBw.out⟩
    case done =>
      intro D xs W' hD hxs hI hK
      obtain ⟨hE, hBw⟩ := hI
      have hne : l.drop f ≠ [] := fun e => by rw [e] at hlen; simp at hlen; omega
      have hac : accU W (l.drop f) (wdL xs) = cut W (l.drop f) := by rw [hxs]; exact (cut_of H0.out hne).symm
      rw [hac] at hE
      have hbw : Below wr.heap.size wr W' := HB7.out.symm ▸ hBw
      have cs' := cell_keep hbw cs
      have cf' := cell_keep hbw cf
      have hrw := HRW.out.below hbw
      have hfs := fillP_set W l (k := f) (by rw [HN.out]; omega)
      obtain ⟨⟨c1, c2⟩, hc⟩ : ∃ z, cut W (l.drop f) = z := ⟨_, rfl⟩
      rw [hc] at hE hfs
      simp only at hE
      obtain ⟨e0, e1⟩ := Bx.two hE
      have hst := pt_store hrw f c1 c2
      rw [hfs] at hst
      obtain ⟨⟨z1, z2⟩, hz⟩ : ∃ z, (fillP W l (f + 1))[f]? = some z := ⟨_, List.getElem?_eq_getElem (by rw [fillP_len W l (by rw [HN.out]; omega), HN.out]; omega)⟩
      obtain ⟨r0, r1⟩ := pt_at hrw hz
      have f0 := Bx.thaw hrw (f * 2); have f1 := Bx.thaw hrw (f * 2 + 1)
      have j1 : (f : Int) < (N : Int) + 1 := by omega
      have hxs2 : Boxed W' (n0 + 1) 114 (.slice (some ⟨n0, 0, none⟩) (N + 1) (N + 1)) := (hbw.block _ HXS.out.lt).trans HXS.out
      have hxf2 : Boxed W' B6 3 (.int .i64 (f : Int)) := (hbw.block _ HXF.out.lt).trans HXF.out
      have hmk2 : ZMarks n0 W' (D :: Ds) := ⟨List.nodup_cons.2 ⟨fun hm => by
        have h1 := (HMS.out.at_ D hm).2
        have := (Array.getElem?_eq_some_iff.1 h1).1
        have := HB7.out
        omega, HMS.out.nd⟩, fun D' hD' => by
        rcases List.mem_cons.1 hD' with rfl | hD'
        · exact ⟨by omega, hK⟩
        · exact ((HMS.out.below hbw).at_ D' hD')⟩
      have hbl2 := HBL.out.trans (hBw.mono hn7)
      have hsz7 : B7 ≤ W'.heap.size := by have := hBw.size; have := HB7.out; omega
      have HXS2 := Lib.hid hxs2; have HXF2 := Lib.hid hxf2; have HM2 := Lib.hid hmk2; have HBL2 := Lib.hid hbl2; have HST := Lib.hid hst
      clear hE hBw hbw hrw hst hfs hz hac hc hne hxs2 hxf2 hmk2 hbl2 hK hxs
      have hmu0 : ∀ a : Act, a.tmps.getD 6 undef = .pointer (some ⟨B6, 0, none⟩) → uptMu a wr = f + 1 := fun a ha => by rw [upt_mu ha cf]; omega
      gi_wp2
      have hbn := Boxed.new ((W'.setCell ⟨n0, f * 2, none⟩ (.int .i64 (c1 : Int))).setCell ⟨n0, f * 2 + 1, none⟩ (.int .i64 (c2 : Int))) 3 (.int .i64 ((f : Int) - 1))
      simp only [World.size_setCell] at hbn
      refine ⟨⟨f, W'.heap.size, D :: Ds, ⟨by omega, by have := HXF2.out.lt; omega, Lib.hid (Boxed.alloc (((Below.heap_setCell _ _ _ _ (by simp)).trans (Below.heap_setCell _ _ _ _ (by simp))).trans HXS2.out) _), Lib.hid hbn, Lib.hid (HST.out.below (bel_one _ _)), Lib.hid (((HBL2.out.setCell (p := ⟨n0, f * 2, none⟩) (Nat.le_refl _) _).setCell (p := ⟨n0, f * 2 + 1, none⟩) (Nat.le_refl _) _).alloc (by simp; have := HBL2.out.size; omega) _), Lib.hid (((HM2.out.keeps (KeepsOthers.setCell _ _ _)).keeps (KeepsOthers.setCell _ _ _)).below (bel_one _ _))⟩, rfl, rfl⟩, ?_⟩
      rw [upt_mu (p := ⟨W'.heap.size, 0, none⟩) (z := (f : Int) - 1) rfl hbn.cell]
      omega
  · obtain rfl : k = 0 := by omega
    have ef : ((0 : Nat) : Int) - 1 = -1 := by omega
    rw [ef] at cf
    have hrw := HRW.out
    rw [fillP_none] at hrw
    have HRW2 := Lib.hid hrw
    have hsz : n0 ≤ wr.heap.size := by have := HXF.out.lt; omega
    clear hrw HRW ef
    gi_wp2
    refine z_leaves_marks (n0 := n0) Ds _ hsz HMS.out (fun w' hb' hk' => ?_)
    exact ⟨_, results_tmp rfl _ _ _, n0, rfl, hk' _ _ HRW2.out rfl, HBL.out.trans hb', Nat.le_refl _⟩
end Go.Proofs.YtljaibhhkjapmaaDoor

