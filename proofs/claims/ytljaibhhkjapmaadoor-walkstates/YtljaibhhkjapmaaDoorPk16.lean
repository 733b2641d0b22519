/- Texts that several proofs of this seat share, one behind the other: ZNew ULng UPart ZOut. -/
import Derived.Test.YtljaibhhkjapmaaDoorPk15
import Derived.Test.YtljaibhhkjapmaaDoorPk10
import Derived.Test.YtljaibhhkjapmaaDoorPk5
import Derived.Test.YtljaibhhkjapmaaDoorPk8
import Derived.Test.YtljaibhhkjapmaaDoorPk9
/- dawg.New: the automaton of normal words, or why they are not normal. -/
namespace Go.Proofs.YtljaibhhkjapmaaDoor
open Go.RowKit Go.Shelf Go.Lib
attribute [local go_sem] Oper.semAt_some
set_option linter.unusedSimpArgs false
set_option linter.unusedVariables false

theorem info_i64 : (Tryd.prog.info? 3).map (fun i => (i.zero, i.size, i.bytes)) = some (some (.int .i64 0), 1, 8) := by kernel_rfl
/-- The automaton while the words' numbers are laid. -/
structure DgM (w W : World) (n1 d : Nat) (sts : List StaL) (eds : List Edg) (L1 : List Wrd) (vs ve vf : Value) : Prop where
  box : Bx W d 83 #[vs, ve, vf]
  st : StOwn W n1 vs sts
  ed : EdOwn W n1 ve eds
  fq : W.ownsRow n1 3 1 vf L1.length (gCells frCell L1)
  bel : Below n1 w W
  d0 : n1 ≤ d
theorem own_not_box {W : World} {n1 size n d : Nat} {T T' : TypeId} {v : Value} {xs : List Value} {cs : Array Value} (hv : W.ownsRow n1 T size v n xs) (hb : Bx W d T' cs) (hT : T ≠ T') : v.ownBlock ≠ some d := fun e => by
  rcases hv.2 with ⟨rfl, _⟩ | ⟨g, cap, cur, rfl, _, hg, _⟩
  · cases e
  · have e2 : g = d := by simpa [Value.ownBlock] using e
    unfold Bx at hb
    rw [e2, hb] at hg
    simp only [Option.some.injEq, Obj.cells.injEq] at hg
    exact hT hg.2.1.symm
theorem DgM.below {w W W' : World} {n1 d : Nat} {sts : List StaL} {eds : List Edg} {L1 : List Wrd} {vs ve vf : Value} (h : DgM w W n1 d sts eds L1 vs ve vf) (hb : Below W.heap.size W W') : DgM w W' n1 d sts eds L1 vs ve vf :=
  ⟨h.box.below hb, z_own_below h.st hb, z_own_below h.ed hb, z_own_below h.fq hb, h.bel.trans (hb.mono (by have := h.box.lt; have := h.d0; omega)), h.d0⟩
/-- One number more. -/
theorem DgM.push {w W W5 : World} {n1 d : Nat} {sts : List StaL} {eds : List Edg} {L1 L2 : List Wrd} {vs ve vf v' : Value} (h : DgM w W n1 d sts eds L1 vs ve vf) (o : Obj) (hg : (W.alloc o).grownBy W5 vf.ownBlock) (hw : W5.ownsRow n1 3 1 v' L2.length (gCells frCell L2)) :
    DgM w (W5.setCell ⟨d, 2, none⟩ v') n1 d sts eds L2 vs ve v' ∧ Bx W5 d 83 #[vs, ve, vf] := by
  have h1 := h.below (bel_one W o)
  have a1 := own_not_box h1.st h1.box (by decide)
  have a2 := own_not_box h1.ed h1.box (by decide)
  have a3 := own_not_box h1.fq h1.box (by decide)
  have b1 := own_apart h1.st h1.fq (by decide)
  have b2 := own_apart h1.ed h1.fq (by decide)
  have hbx : Bx W5 d 83 #[vs, ve, vf] := (hg.block d h1.box.lt (fun e => a3 e.symm)).trans h1.box
  have hst := h1.st.kept hg b1
  have hed := h1.ed.kept hg b2
  have a4 := own_not_box hw hbx (by decide)
  have hs := z_grown_set W5 d 2 v'
  have hn1 : n1 ≤ (W.alloc o).heap.size := by have := h1.box.lt; have := h.d0; omega
  have hn5 : n1 ≤ W5.heap.size := Nat.le_trans hn1 hg.size
  refine ⟨⟨z_set_cells hbx 2 v', hst.kept hs (.inr a1), hed.kept hs (.inr a2), hw.kept hs (.inr a4), ?_, h.d0⟩, hbx⟩
  exact (h1.bel.grown hg hn1 (fun r e => by
    rcases h1.fq.2 with ⟨e2, _⟩ | ⟨g, cap, cur, e2, hb, _⟩
    · rw [e2] at e; cases e
    · rw [e2] at e
      have : g = r := by simpa [Value.ownBlock] using e
      omega)).grown hs hn5 (fun r e => by cases e; exact h.d0)
theorem DgM.at_ {w W : World} {n1 d : Nat} {Q : List Rst} {L : List Wrd} {vs ve vf : Value} (h : DgM w W n1 d (staK Q Q.length) (edK Q Q.length) L vs ve vf) : DgAt W d Q L :=
  ⟨vs, ve, vf, h.box, GRuns.of_own st_ln rfl h.st, GRuns.of_own ed_ln rfl h.ed, GRuns.of_own fr_ln rfl h.fq⟩
/-- What New makes of words, where their runes are not too many: numbers hold all. -/
theorem dgOk {L : List Wrd} (hn : wisS L = 0) : DgOk (staQ (rnW L)) L := by
  have hfa := rnW_facts hn
  have hl := (wisS_facts hn).2.2
  have h : ∀ l : Rst, (∀ x ∈ l, x.length ≤ 64) → ltrs l ≤ l.length * 64 := by
    intro l
    induction l with
    | nil => intro _; exact Nat.le_refl _
    | cons a l ih =>
      intro h
      have h1 := ih (fun x hx => h x (by simp [hx]))
      have h2 := h a (by simp)
      show (((a :: l).map List.length).sum) ≤ _
      rw [List.map_cons, List.sum_cons, List.length_cons, Nat.succ_mul]
      unfold ltrs at h1
      omega
  have h2 := h (rnW L) (fun x hx => (hfa x hx).2.1)
  have h3 : (rnW L).length = L.length := by unfold rnW; rw [List.length_map]
  have h4 := staQ_most (rnW L)
  have h5 := edK_all (rnW_rising hn) (staQ (rnW L)).length
  exact ⟨staQ_len _, by omega, by omega, by omega⟩
/-- What New answers. -/
def NewDPost (w : World) (L : List Wrd) (e : Ending) (w' : World) : Prop :=
  Below w.heap.size w w' ∧ ((wisS L ≠ 0 ∧ e = .returned (.tuple #[.pointer none, .int .i64 (wisS L)])) ∨ (wisS L = 0 ∧ ∃ d, e = .returned (.tuple #[.pointer (some ⟨d, 0, none⟩), .int .i64 0]) ∧ DgAt w' d (staQ (rnW L)) L))

set_option maxRecDepth 100000 in
set_option maxHeartbeats 16000000 in
theorem newd_any (v : Value) (L : List Wrd) (w : World) (hO : Okw w) (hv : WRuns w v L) (hl : L.length ≤ 2000000) (hz : szW L) :
    Calls Tryd.prog 12 #[v] w (NewDPost w L) := by
  have c1 := xis_any v L w hO hv hl hz
  by_cases h0 : wisS L = 0
  · have hP : ∀ (w' : World) (d : Nat), Below w.heap.size w w' → DgAt w' d (staQ (rnW L)) L → NewDPost w L (.returned (.tuple #[.pointer (some ⟨d, 0, none⟩), .int .i64 0])) w' := fun w' d hb hd => ⟨hb, .inr ⟨h0, d, rfl, hd⟩⟩
    have hk := dgOk h0
    rw [h0] at c1
    obtain ⟨A, c, ev⟩ := hv.slice
    have c2 := fun w' (hO' : Okw w') (hv' : WRuns w' (.slice A L.length c) L) => build_any A c L L.length rfl w' hO' hv' h0 (fun x hx => by have := hz x hx; omega)
    obtain ⟨N, hN⟩ : ∃ z, L.length = z := ⟨_, rfl⟩
    rw [hN] at c2 ev
    subst ev
    obtain ⟨Q, hQ⟩ : ∃ z, staQ (rnW L) = z := ⟨_, rfl⟩
    rw [hQ] at c2 hP hk
    have hNb : N ≤ 65536 := by rw [← hN]; exact (wisS_facts h0).2.2
    have C1 := Lib.hid c1; have C2 := Lib.hid c2; have HP := Lib.hid hP; have HV := Lib.hid hv; have HN := Lib.hid hN; have HO := Lib.hid hO; have HKK := Lib.hid hk
    clear c1 c2 hP hv hl hz h0 hN hQ hO hk
    go_enter Tryd.func12, Tryd.ntmps12
    go_wp2_with fail
    refine C1.out.mono ?_
    rintro e w1 ⟨rfl, b1⟩
    have c3 := C2.out w1 (HO.out.below b1) (HV.out.below b1)
    have C3 := Lib.hid c3
    have B1 := Lib.hid b1; have HV1 := Lib.hid (HV.out.below b1)
    clear c3 C1 C2 b1 HO
    go_wp2_with fail
    refine C3.out.mono ?_
    rintro e w2 ⟨d, vs, ve, rfl, hld⟩
    obtain ⟨n1, hn1⟩ : ∃ z, w1.heap.size = z := ⟨_, rfl⟩
    rw [hn1] at hld
    have hM0 : Hid (DgM w1 w2 n1 d (staK Q Q.length) (edK Q Q.length) (L.take 0) vs ve (.slice none 0 0)) := Lib.hid ⟨hld.box, hld.st, hld.ed, World.ownsRow_nil _ _ _ _, hld.bel, hld.d0⟩
    have HN1 := Lib.hid hn1
    clear hld hn1 C3
    go_wp2
    go_loopw [17] (fun s17 wr => ∃ (i : Nat) (vf : Value), s17 = .int .i64 i ∧ i ≤ N ∧ Hid (DgM w1 wr n1 d (staK Q Q.length) (edK Q Q.length) (L.take i) vs ve vf)) (fun s17 _ => N - (RowKit.intOf s17).toNat)
    case atStart => exact ⟨0, _, rfl, Nat.zero_le _, hM0⟩
    case round =>
      obtain ⟨i, vf, rfl, hiN, HM⟩ := hrel
      by_cases hi : i < N
      · obtain ⟨⟨x1, x2⟩, hx⟩ : ∃ x, L[i]? = some x := ⟨_, List.getElem?_eq_getElem (by rw [HN.out]; exact hi)⟩
        have hbw : Below w1.heap.size w1 wr := by rw [HN1.out]; exact HM.out.bel
        obtain ⟨b, o, rfl, hlt, hc⟩ := (HV1.out.below hbw).cells HN.out (by omega)
        obtain ⟨g0, g1⟩ := wrd_cells hc hx
        simp only at g0 g1
        have i1 : (i : Int) < (N : Int) := by omega
        obtain ⟨B, hB⟩ : ∃ z, wr.heap.size = z := ⟨_, rfl⟩
        have hal := bel_one wr (.cells #[.string x1, .int .i64 x2] 72)
        have hbx := bx_new wr 72 #[.string x1, .int .i64 x2]
        have hM1 := HM.out.below hal
        rw [hB] at hbx
        obtain ⟨W1, hW1⟩ : ∃ z, wr.alloc (.cells #[.string x1, .int .i64 x2] 72) = z := ⟨_, rfl⟩
        rw [hW1] at hal hbx hM1
        have hli : (L.take i).length = i := by rw [List.length_take, HN.out]; exact Nat.min_eq_left (by omega)
        obtain ⟨Af, cf, ef⟩ := z_own_slice hM1.fq
        rw [hli] at ef
        subst ef
        have hfq := hM1.fq
        rw [hli] at hfq
        have hn1W : n1 ≤ W1.heap.size := by have := hM1.box.lt; have := hM1.d0; omega
        obtain ⟨v9, w9, hrun, hown9, hgr9, hblk9⟩ := append_one (P := Tryd.prog) fr_ln fr_one info_i64 rfl (by decide) (by decide) Tryd.underlying79 W1.drew n1 _ i _ hfq (x1, x2) hn1W (by omega)
        have htk : L.take (i + 1) = L.take i ++ [(x1, x2)] := by rw [List.take_add_one, hx]; rfl
        obtain ⟨p1, p2⟩ := (show DgM w1 W1.drew n1 d (staK Q Q.length) (edK Q Q.length) (L.take i) vs ve (.slice Af i cf) from hM1.below (Below.refl _ _).drew).push (v' := v9) (L2 := L.take (i + 1)) _ hgr9 (by
          rw [htk, List.length_append, hli, gCells_snoc]
          exact hown9)
        obtain ⟨A9, c9, e9⟩ := z_own_slice hown9
        subst e9
        have hbd : Bx W1 d 83 #[vs, ve, .slice Af i cf] := hM1.box
        have hdB : d < B := by have := HM.out.box.lt; omega
        have nB : B ≠ d := by omega
        obtain ⟨c0, c1⟩ := hbx.two
        have e2 := hbd.cell (j := 2) (v := .slice Af i cf) rfl
        have a3 := own_not_box hM1.fq hbx (by decide)
        have hB9 : Bx w9 B 72 #[.string x1, .int .i64 x2] := (hgr9.block B (by have := hbx.lt; simp; omega) (fun e => a3 e.symm)).trans ((Below.heap_alloc _ _ _ hbx.lt).trans hbx)
        obtain ⟨m0, m1⟩ := hB9.two
        have d1a : (W1.drew.alloc (.cells #[.int .i64 x2] 3)).cell? ⟨d, 2, none⟩ = some (.slice Af i cf) := cell_keep (bel_one _ _) e2
        have d1b : (W1.alloc (.cells #[.int .i64 x2] 3)).drew.cell? ⟨d, 2, none⟩ = some (.slice Af i cf) := cell_keep (bel_one _ _).drew e2
        have q1 : w9.cell? ⟨d, 2, none⟩ = some (.slice Af i cf) := p2.cell rfl
        have q2 := p2.thaw 2
        have hW1s : W1.heap.size = B + 1 := by rw [← hW1]; simp [hB]
        have HRUN := Lib.hid hrun
        have HP1 := Lib.hid p1; have HW1 := Lib.hid hW1; have HBB := Lib.hid hB
        clear hc hx hbw hlt hal hbx hM1 hli hfq hn1W hrun hown9 hgr9 hblk9 htk p1 p2 hbd a3 hB9 hW1 hB HM
        go_wp2
        rw [HW1.out, HBB.out]
        apply z_region_at (W := w9.setCell ⟨d, 2, none⟩ (.slice A9 (i + 1) c9))
        · refine wp_region_held_drew (S := fun wx => wx.cell? ⟨B, 0, none⟩ = some (.string x1) ∧ wx.cell? ⟨B, 1, none⟩ = some (.int .i64 x2)) (by kernel_rfl) ⟨c0, c1⟩ (fun hS => ?_)
          change wpAnyH _ _ _ _ _ 12 _ _ _
          refine wpAnyH_take (i := 0) (v := .pointer (some ⟨d, 0, none⟩)) rfl (by kernel_rfl) (by kernel_rfl) (by kernel_rfl) (fun _ _ _ h => h) (Or.inl ⟨by rfl, fun wy hy => by obtain ⟨y0, y1⟩ := hy; go_simp⟩) hS ?_
          refine wpAnyH_take (i := 1) (v := .pointer (some ⟨d, 0, none⟩)) rfl (by kernel_rfl) (by kernel_rfl) (by kernel_rfl) (fun _ _ _ h => h) (Or.inl ⟨by rfl, fun wy hy => by obtain ⟨y0, y1⟩ := hy; go_simp⟩) hS ?_
          refine wpAnyH_take (i := 2) (v := .pointer (some ⟨d, 0, none⟩)) rfl (by kernel_rfl) (by kernel_rfl) (by kernel_rfl) (fun _ _ _ h => h) (Or.inl ⟨by rfl, fun wy hy => by obtain ⟨y0, y1⟩ := hy; go_simp⟩) hS ?_
          refine wpAnyH_take (i := 3) (v := .pointer (some ⟨d, 2, none⟩)) rfl (by kernel_rfl) (by kernel_rfl) (by kernel_rfl) (fun _ _ _ h => h) (Or.inl ⟨by rfl, fun wy hy => by obtain ⟨y0, y1⟩ := hy; go_simp⟩) hS ?_
          refine wpAnyH_take (i := 5) (v := .pointer (some ⟨B, 1, none⟩)) rfl (by kernel_rfl) (by kernel_rfl) (by kernel_rfl) (fun _ _ _ h => h) (Or.inl ⟨by rfl, fun wy hy => by obtain ⟨y0, y1⟩ := hy; go_simp⟩) hS ?_
          refine wpAnyH_take (i := 6) (v := .int .i64 x2) rfl (by kernel_rfl) (by kernel_rfl) (by kernel_rfl) (fun _ _ _ h => h) (Or.inl ⟨by rfl, fun wy hy => by obtain ⟨y0, y1⟩ := hy; go_simp⟩) hS ?_
          refine wpAnyH_ready (rs := [4, 7]) (by kernel_rfl) (by simp) ?_
          refine AllReadyH.cons rfl (fun K hK => ?_) (AllReadyH.cons rfl (fun K hK => ?_) AllReadyH.nil)
          · go_simp
            refine hK.out _ _ hS (fun hS => ?_)
            refine wpAnyH_ready (rs := [7]) (by kernel_rfl) (by simp) ?_
            refine AllReadyH.cons rfl (fun K hK => ?_) AllReadyH.nil
            go_simp
            refine hK.out _ _ ⟨cell_keep (bel_one _ _) hS.1, cell_keep (bel_one _ _) hS.2⟩ (fun hS => ?_)
            refine wpAnyH_ready (rs := [8]) (by kernel_rfl) (by simp) ?_
            refine AllReadyH.cons rfl (fun K hK => ?_) AllReadyH.nil
            refine xstep_append ?_ (.tmp 25) (.tmp 28) 79 _ _ _ _ ?_ HRUN.out ?_ ?_ ?_
            · rfl
            · rfl
            · go_simp
            · go_simp
            refine hK.out _ _ ⟨m0, m1⟩ (fun hS => ?_)
            refine wpAnyH_take (i := 9) (v := .pointer (some ⟨d, 0, none⟩)) rfl (by kernel_rfl) (by kernel_rfl) (by kernel_rfl) (fun _ _ _ h => h) (Or.inl ⟨by rfl, fun wy hy => by obtain ⟨y0, y1⟩ := hy; go_simp⟩) hS ?_
            refine wpAnyH_take (i := 10) (v := .pointer (some ⟨d, 2, none⟩)) rfl (by kernel_rfl) (by kernel_rfl) (by kernel_rfl) (fun _ _ _ h => h) (Or.inl ⟨by rfl, fun wy hy => by obtain ⟨y0, y1⟩ := hy; go_simp⟩) hS ?_
            refine wpAnyH_ready (rs := [11]) (by kernel_rfl) (by simp) ?_
            refine AllReadyH.cons rfl (fun K hK => ?_) AllReadyH.nil
            go_simp
            refine hK.out _ _ ⟨(z_cell_set_ne _ _ _ _ _ _ nB).trans m0, (z_cell_set_ne _ _ _ _ _ _ nB).trans m1⟩ (fun hS => ?_)
            exact wpAnyH_done (by kernel_rfl) ⟨rfl, rfl⟩ _
          · go_simp
            refine hK.out _ _ ⟨cell_keep (bel_one _ _) hS.1, cell_keep (bel_one _ _) hS.2⟩ (fun hS => ?_)
            refine wpAnyH_ready (rs := [4]) (by kernel_rfl) (by simp) ?_
            refine AllReadyH.cons rfl (fun K hK => ?_) AllReadyH.nil
            go_simp
            refine hK.out _ _ hS (fun hS => ?_)
            refine wpAnyH_ready (rs := [8]) (by kernel_rfl) (by simp) ?_
            refine AllReadyH.cons rfl (fun K hK => ?_) AllReadyH.nil
            refine xstep_append ?_ (.tmp 25) (.tmp 28) 79 _ _ _ _ ?_ HRUN.out ?_ ?_ ?_
            · rfl
            · rfl
            · go_simp
            · go_simp
            refine hK.out _ _ ⟨m0, m1⟩ (fun hS => ?_)
            refine wpAnyH_take (i := 9) (v := .pointer (some ⟨d, 0, none⟩)) rfl (by kernel_rfl) (by kernel_rfl) (by kernel_rfl) (fun _ _ _ h => h) (Or.inl ⟨by rfl, fun wy hy => by obtain ⟨y0, y1⟩ := hy; go_simp⟩) hS ?_
            refine wpAnyH_take (i := 10) (v := .pointer (some ⟨d, 2, none⟩)) rfl (by kernel_rfl) (by kernel_rfl) (by kernel_rfl) (fun _ _ _ h => h) (Or.inl ⟨by rfl, fun wy hy => by obtain ⟨y0, y1⟩ := hy; go_simp⟩) hS ?_
            refine wpAnyH_ready (rs := [11]) (by kernel_rfl) (by simp) ?_
            refine AllReadyH.cons rfl (fun K hK => ?_) AllReadyH.nil
            go_simp
            refine hK.out _ _ ⟨(z_cell_set_ne _ _ _ _ _ _ nB).trans m0, (z_cell_set_ne _ _ _ _ _ _ nB).trans m1⟩ (fun hS => ?_)
            exact wpAnyH_done (by kernel_rfl) ⟨rfl, rfl⟩ _
        clear HRUN m0 m1 d1a d1b q1 q2 c0 c1 e2
        go_wp2
        exact ⟨⟨i + 1, _, by go_num, by omega, HP1⟩, by simp [RowKit.intOf]; omega⟩
      · obtain rfl : i = N := by omega
        have i1 : ¬ (i : Int) < (i : Int) := by omega
        have hLt : L.take i = L := List.take_of_length_le (by rw [HN.out]; exact Nat.le_refl _)
        rw [hLt] at HM
        have hfin := HP.out wr d (B1.out.trans (Below.mono (by rw [← HN1.out] at HM; exact HM.out.bel) B1.out.size)) HM.out.at_
        have HFIN := Lib.hid hfin
        clear hfin hLt
        go_wp2
        go_ret2
        exact HFIN.out
  · have h0' : (wisS L == 0) = false := by simpa using h0
    have hP : ∀ w', Below w.heap.size w w' → NewDPost w L (.returned (.tuple #[.pointer none, .int .i64 (wisS L)])) w' := fun w' hb => ⟨hb, .inl ⟨h0, rfl⟩⟩
    obtain ⟨er, her⟩ : ∃ z, wisS L = z := ⟨_, rfl⟩
    rw [her] at c1 h0' h0
    simp only [her] at hP
    have C1 := Lib.hid c1; have HP := Lib.hid hP
    have h0'' : (er != 0) = true := by simpa using h0
    clear c1 hP hv hz h0 her hO hl
    go_enter Tryd.func12, Tryd.ntmps12
    go_wp2_with fail
    refine C1.out.mono ?_
    rintro e w1 ⟨rfl, b1⟩
    have B1 := Lib.hid b1; clear b1
    go_wp2
    go_ret2
    exact HP.out _ B1.out
end Go.Proofs.YtljaibhhkjapmaaDoor

/- walk.spelled; walk.Longest: the longest word that a text begins with. -/
namespace Go.Proofs.YtljaibhhkjapmaaDoor
open Go.RowKit Go.Shelf
attribute [local go_sem] Oper.semAt_some
set_option linter.unusedSimpArgs false
set_option linter.unusedVariables false

set_option maxRecDepth 100000 in
theorem uspelled_any (v : Value) (l : List Int) (w : World) (hu : Runs w v l) (hl : l.length ≤ 2000000) (hr : ∀ r ∈ l, Lib.validRune r = true) :
    Calls Tryd.prog 59 #[v] w fun e w' => e = .returned (.string (mkT l)) ∧ Below w.heap.size w w' := by
  have h1 : allRunes l = true := List.all_eq_true.2 hr
  have ce := encode_any v l w hu (by omega) (fun x hx => by have := rune_bd (hr x hx); omega)
  have e1 : encErr l = 0 := by rw [encErr, if_pos h1]
  have e2 : (⟨(encS l).toArray⟩ : ByteArray) = mkT l := by rw [encS, if_pos h1]; rfl
  rw [e1, e2] at ce
  have CE := Lib.hid ce
  clear ce e1 e2 hu hr h1
  go_enter Tryd.func59, Tryd.ntmps59
  go_wp2_with fail
  refine CE.out.mono ?_
  rintro e w1 ⟨rfl, hb⟩
  go_wp2
  go_ret
  exact ⟨rfl, hb⟩

def ulE (W : Rst) (s : List UInt8) : Int := if uE s = 0 then (if lngN W (uS s) = 0 then 10 else 0) else uE s
def ulS (W : Rst) (s : List UInt8) : ByteArray := if uE s = 0 then mkT ((uS s).take (lngN W (uS s))) else ⟨#[]⟩
theorem ulongest_no (w : World) (d : Nat) (s : ByteArray) (hO : Okw w) (hs : s.size * 4 ≤ 140737488355328) (W : Rst) (he : uE s.data.toList ≠ 0) :
    Calls Tryd.prog 31 #[.pointer (some ⟨d, 0, none⟩), .string s] w fun e w' => e = .returned (.tuple #[.string (ulS W s.data.toList), .int .i64 (ulE W s.data.toList)]) ∧ Below w.heap.size w w' := by
  rw [ulS, ulE, if_neg he, if_neg he]
  have cr := uread_any d s w hO hs
  obtain ⟨er, her⟩ : ∃ z, uE s.data.toList = z := ⟨_, rfl⟩
  obtain ⟨ls, hls⟩ : ∃ z, uS s.data.toList = z := ⟨_, rfl⟩
  rw [her, hls] at cr
  rw [her] at he ⊢
  have h1 : (er == 0) = false := by simpa using he
  have h2 : (er != 0) = true := by simpa using he
  have CR := Lib.hid cr
  clear cr he her hls
  go_enter Tryd.func31, Tryd.ntmps31
  go_wp2_with fail
  refine CR.out.mono ?_
  rintro e w3 ⟨A, c, rfl, hr, b3⟩
  have HB3 := Lib.hid b3
  clear hr b3
  go_wp2
  go_ret2
  exact ⟨rfl, HB3.out⟩

set_option maxRecDepth 100000 in
set_option maxHeartbeats 16000000 in
theorem ulongest_any (w : World) (d : Nat) (L : List Wrd) (hn : wisS L = 0) (Q : List Rst) (hQ : staQ (rnW L) = Q) (h : DgAt w d Q L) (s : ByteArray) (hO : Okw w) (hs : s.size * 4 ≤ 140737488355328) :
    Calls Tryd.prog 31 #[.pointer (some ⟨d, 0, none⟩), .string s] w fun e w' => e = .returned (.tuple #[.string (ulS (rnW L) s.data.toList), .int .i64 (ulE (rnW L) s.data.toList)]) ∧ Below w.heap.size w w' := by
  by_cases he : uE s.data.toList = 0
  · obtain ⟨hv, hll, hus⟩ := uE_ok he
    rw [← hus] at hll
    have hrv : ∀ r ∈ uS s.data.toList, Lib.validRune r = true := by rw [hus]; exact items_runes _ hv
    have cr := uread_any d s w hO hs
    rw [ulS, ulE, if_pos he, if_pos he]
    rw [he] at cr
    obtain ⟨l, hl⟩ : ∃ z, uS s.data.toList = z := ⟨_, rfl⟩
    rw [hl] at cr hll hrv ⊢
    obtain ⟨N, hN⟩ : ∃ z, l.length = z := ⟨_, rfl⟩
    rw [hN] at cr hll
    have hri := rnW_rising hn
    have hk := dgOk hn
    rw [hQ] at hk
    obtain ⟨W, hW⟩ : ∃ z, rnW L = z := ⟨_, rfl⟩
    rw [hW] at hQ hri ⊢
    have h0 : [] ∉ W := by rw [← hW]; exact no_empty hn
    have hsp := lngN_spec h0 l
    have hlk : lngN W l ≤ N := by
      rw [← hN]
      rcases hsp with ⟨e, _⟩ | ⟨_, e, _⟩
      · rw [e]; exact Nat.zero_le _
      · exact e
    have csp := fun v w' (hu : Runs w' v (l.take (lngN W l))) => uspelled_any v _ w' hu (by rw [List.length_take]; omega) (fun r hr => hrv r (List.mem_of_mem_take hr))
    have hlst : (wrdN W l).getLast?.getD 0 = lngN W l := rfl
    obtain ⟨k, hkk⟩ : ∃ z, lngN W l = z := ⟨_, rfl⟩
    rw [hkk] at hlk csp hlst ⊢
    obtain ⟨os, hos⟩ : ∃ z, mkT (l.take k) = z := ⟨_, rfl⟩
    obtain ⟨oe, hoe⟩ : ∃ z, (if k = 0 then (10 : Int) else 0) = z := ⟨_, rfl⟩
    rw [hoe]
    rw [hos] at csp ⊢
    have HZ : Hid (k = 0 → os = ⟨#[]⟩ ∧ oe = 10) := Lib.hid (fun e => by subst e; exact ⟨hos.symm.trans rfl, by rw [← hoe]; rfl⟩)
    have HP : Hid (k ≠ 0 → oe = 0) := Lib.hid (fun e => by rw [← hoe, if_neg e])
    have CR := Lib.hid cr; have HD := Lib.hid h; have HN := Lib.hid hN; have HQ := Lib.hid hQ; have HR := Lib.hid hri; have HK := Lib.hid hk; have CSP := Lib.hid csp; have HLS := Lib.hid hlst
    clear cr h hN hQ hri hk he hl hn hW hO hs csp hlst hos hoe hkk hsp hus hv hrv h0
    refine (callsIn_wide (n := 6)).1 ?_
    refine callsIn_of_wp_marks Tryd.func31 rfl trivial ?_ rfl
    simp only [Tryd.ntmps31, List.size_toArray, List.length_cons, List.length_nil, Nat.reduceAdd, Nat.reduceSub, Array.replicate_succ, Array.replicate_zero, List.push_toArray, List.append_toArray, List.nil_append, List.cons_append]
    gi_wp2_with (first
      | (refine ⟨trivial, ?_⟩; gi_at_call 53; refine (callsIn_wide.2 CR.out).mono ?_; rintro e w3 ⟨A, c, rfl, hr, b3⟩; have HR3 := Lib.hid hr; have HB3 := Lib.hid b3; clear hr b3)
      | (refine ⟨trivial, ?_⟩; gi_at_call 58; refine (callsIn_wide.2 (words_fn _ _ _ _ _)).mono ?_; rintro e w' ⟨rfl, rfl⟩))
    have hb3 := HB3.out
    have bT := Boxed.new w3 3 (.int .i64 0)
    have bD := Boxed.new (w3.alloc (.cells #[.int .i64 0] 3)) 25 (.pointer (some ⟨d, 0, none⟩))
    have bL := Boxed.new ((w3.alloc (.cells #[.int .i64 0] 3)).alloc (.cells #[.pointer (some ⟨d, 0, none⟩)] 25)) 84 (.slice A N c)
    simp only [World.size_alloc] at bD bL ⊢
    have hB0 : Below w3.heap.size w3 (((w3.alloc (.cells #[.int .i64 0] 3)).alloc (.cells #[.pointer (some ⟨d, 0, none⟩)] 25)).alloc (.cells #[.slice A N c] 84)) := (((Below.refl _ w3).alloc (Nat.le_refl _) _).alloc (by simp) _).alloc (by simp <;> omega) _
    have hD3 := HD.out.below hb3
    have cD := (bD.alloc (.cells #[.slice A N c] 84)).cell
    have cL := bL.cell
    have bT' := (bT.alloc (.cells #[.pointer (some ⟨d, 0, none⟩)] 25)).alloc (.cells #[.slice A N c] 84)
    have hZ : (((w3.alloc (.cells #[.int .i64 0] 3)).alloc (.cells #[.pointer (some ⟨d, 0, none⟩)] 25)).alloc (.cells #[.slice A N c] 84)).heap.size = w3.heap.size + 3 := by simp
    obtain ⟨WZ, hWZ⟩ : ∃ z, ((w3.alloc (.cells #[.int .i64 0] 3)).alloc (.cells #[.pointer (some ⟨d, 0, none⟩)] 25)).alloc (.cells #[.slice A N c] 84) = z := ⟨_, rfl⟩
    obtain ⟨B, hB⟩ : ∃ z, w3.heap.size = z := ⟨_, rfl⟩
    rw [hWZ] at cD cL bT' hZ hB0 ⊢
    rw [hB] at cD cL bT' hZ hB0 ⊢
    have HBB := Lib.hid hB
    clear bT bD bL hWZ
    refine wp_range_priv3 (by decide) (gf := 87) (lb := #[.pointer (some ⟨B + 1, 0, none⟩), .pointer (some ⟨B + 1 + 1, 0, none⟩)]) rfl (enters_of Tryd.func87 (by kernel_rfl) rfl)
      (words_seq (B + 1) (B + 1 + 1) B d N A c l HN.out (by omega) L W HR.out Q HQ.out HK.out w3 hB hD3 HR3.out WZ (by omega) hB0 (by omega) (by omega) cD cL) Keep2.trans (keep2_b (by omega) (by omega) (by omega)) (Below.refl _ _) (fun _ => rfl)
      (fun (pre : List (WdI W l)) Wx => Boxed Wx B 3 (.int .i64 (((wdL pre).getLast?.getD 0 : Nat) : Int)) ∧ Below B w3 Wx)
      (OwnFrom.and (Own.from (boxed_own B 3 (fun pre : List (WdI W l) => Value.int .i64 (((wdL pre).getLast?.getD 0 : Nat) : Int))) _) (ownFrom_below (by omega) (by omega)))
      (fun pre X Y hI hs hp => ⟨(hp.1.block B (by omega)).trans hI.1, hI.2.trans (hp.1.mono (by omega))⟩) ⟨bT', hB0⟩
      (fun x => { tmps := #[.pointer (some ⟨d, 0, none⟩), .string s, undef, undef, .string ⟨#[]⟩, .int .i64 0, .slice A N c, .int .i64 0, .pointer (some ⟨B, 0, none⟩), .int .i64 (x.val : Int), .tuple #[.slice A N c, .int .i64 0], .pointer (some ⟨d, 0, none⟩), .string s, .tuple #[.slice A N c, .int .i64 0], .slice A N c, .int .i64 0, .int .i64 0, .bool false, undef, .pointer (some ⟨d, 0, none⟩), .slice A N c, .func (.func 87) #[] #[.pointer (some ⟨B + 1, 0, none⟩), .pointer (some ⟨B + 1 + 1, 0, none⟩)], .int .i64 (x.val : Int), undef, undef, undef, undef, undef, undef, undef], defers := [] })
      ?assign ?body ?done
    case assign =>
      intro lp x W' K hK
      gi_wp2
      exact hK
    case body =>
      intro lp pre x W' hsz hI hlt
      obtain ⟨hE, hBw⟩ := hI
      have hce := hE.cell
      have hcf := hE.frozen
      have hbx : Boxed (W'.setCell ⟨B, 0, none⟩ (.int .i64 (x.val : Int))) B 3 (.int .i64 (((wdL (pre ++ [x])).getLast?.getD 0 : Nat) : Int)) := by
        rw [wdL_snoc, List.getLast?_concat]
        exact hE.set _
      have hbb := hBw.setCell (p := ⟨B, 0, none⟩) (Nat.le_refl _) (.int .i64 (x.val : Int))
      have HBX := Lib.hid hbx; have HBB2 := Lib.hid hbb
      clear hbx hbb hE hBw
      gi_wp2
      exact ⟨(KeepsOthers.setCell _ _ _).from _, fun k h1 h2 => Below.heap_setCell _ _ _ _ (by simp; omega), ⟨(Below.refl _ _).setCell (p := ⟨B, 0, none⟩) (Nat.le_refl _) _, Below.heap_setCell _ _ _ _ (by simp), Below.heap_setCell _ _ _ _ (by simp <;> omega)⟩, HBX.out, HBB2.out⟩
    case done =>
      intro D xs W' hD hxs hI hK
      obtain ⟨hE, hBw⟩ := hI
      rw [hxs, HLS.out] at hE
      have hce := hE.cell
      have hMK : ZMarks B W' [D] := ⟨by simp, fun D' hD' => by
        have e : D' = D := by simpa using hD'
        rw [e]; exact ⟨by omega, hK⟩⟩
      have hsz : B ≤ W'.heap.size := by have := (Array.getElem?_eq_some_iff.1 hK).1; omega
      have hbw : Below w.heap.size w W' := hb3.trans ((HBB.out.symm ▸ hBw).mono hb3.size)
      have hBq : w.heap.size ≤ B := by rw [← HBB.out]; exact hb3.size
      have HMK := Lib.hid hMK; have HSZ := Lib.hid hsz; have HBW := Lib.hid hbw; have HBw := Lib.hid hBw
      clear hMK hsz hbw hE hK hxs hBw
      by_cases hk0 : k = 0
      · obtain ⟨e1, e2⟩ := HZ.out hk0
        subst e1 e2 hk0
        gi_wp2
        refine z_leaves_marks (n0 := B) [D] _ HSZ.out HMK.out (fun w' hb' hk' => ?_)
        exact ⟨_, results_tmp2 rfl _ _ _, rfl, HBW.out.trans (hb'.mono hBq)⟩
      · have e2 := HP.out hk0
        subst e2
        have k1 : ((k : Int) == 0) = false := by simpa using (by omega : ¬ (k : Int) = 0)
        have hr' := HR3.out.below (HBB.out.symm ▸ HBw.out)
        obtain ⟨hsl, hrs⟩ := slice_h32 hr' HN.out k hlk
        have cs := CSP.out _ _ hrs
        have CS := Lib.hid cs
        clear hr' hrs cs
        gi_wp2_with (first
          | (refine ⟨trivial, ?_⟩; gi_at_call 59; refine (callsIn_wide.2 CS.out).mono ?_; rintro e w5 ⟨rfl, b5⟩; have HB5 := Lib.hid (HBW.out.trans (b5.mono HBW.out.size)); have HM5 := Lib.hid (HMK.out.below b5); have HS5 : Hid (B ≤ w5.heap.size) := Lib.hid (Nat.le_trans HSZ.out b5.size); clear b5))
        refine z_leaves_marks (n0 := B) [D] _ HS5.out HM5.out (fun w' hb' hk' => ?_)
        exact ⟨_, results_tmp2 rfl _ _ _, rfl, HB5.out.trans (hb'.mono hBq)⟩
  · exact ulongest_no w d s hO hs (rnW L) he
end Go.Proofs.YtljaibhhkjapmaaDoor

/- walk.partings: of how few words the ends of runes are made, and how long the first of these is. -/
namespace Go.Proofs.YtljaibhhkjapmaaDoor
open Go.RowKit Go.Shelf
attribute [local go_sem] Oper.semAt_some
set_option linter.unusedSimpArgs false
set_option linter.unusedVariables false

def ptCell (x : Nat × Nat) : List Value := [.int .i64 (x.1 : Int), .int .i64 (x.2 : Int)]
theorem pt_len (x : Nat × Nat) : (ptCell x).length = 2 := rfl
theorem info_pt : (Tryd.prog.info? 117).map (fun i => (i.zero, i.size, i.bytes)) = some (some (.agg #[.int .i64 0, .int .i64 0]), 2, 16) := by kernel_rfl
/-- A row of partings, as it lies. -/
def PRow (w : World) (G : Nat) (P : List (Nat × Nat)) : Prop := Bx w G 117 (gCells ptCell P).toArray
theorem PRow.below {w w' : World} {G : Nat} {P : List (Nat × Nat)} (h : PRow w G P) (hb : Below w.heap.size w w') : PRow w' G P := Bx.below h hb
theorem pt_at {w : World} {G : Nat} {P : List (Nat × Nat)} (h : PRow w G P) {j : Nat} {x : Nat × Nat} (hj : P[j]? = some x) : w.cell? ⟨G, j * 2, none⟩ = some (.int .i64 (x.1 : Int)) ∧ w.cell? ⟨G, j * 2 + 1, none⟩ = some (.int .i64 (x.2 : Int)) := by
  have h1 := gCells_at (enc := ptCell) (k := 2) pt_len P j 0 x hj (by decide)
  have h2 := gCells_at (enc := ptCell) (k := 2) pt_len P j 1 x hj (by decide)
  exact ⟨Bx.cell h (by rw [List.getElem?_toArray]; exact h1), Bx.cell h (by rw [List.getElem?_toArray]; exact h2)⟩
theorem pt_set : ∀ (P : List (Nat × Nat)) (j a b : Nat), ((gCells ptCell P).set (j * 2) (.int .i64 (a : Int))).set (j * 2 + 1) (.int .i64 (b : Int)) = gCells ptCell (P.set j (a, b)) := by
  intro P
  induction P with
  | nil => intro j a b; simp [gCells]
  | cons x P ih =>
    intro j a b
    cases j with
    | zero => rfl
    | succ j =>
      show ((Value.int .i64 (x.1 : Int) :: Value.int .i64 (x.2 : Int) :: gCells ptCell P).set ((j + 1) * 2) (.int .i64 (a : Int))).set ((j + 1) * 2 + 1) (.int .i64 (b : Int)) = Value.int .i64 (x.1 : Int) :: Value.int .i64 (x.2 : Int) :: gCells ptCell (P.set j (a, b))
      rw [← ih j a b, show (j + 1) * 2 = j * 2 + 1 + 1 by omega]
      rfl
theorem pt_store {w : World} {G : Nat} {P : List (Nat × Nat)} (h : PRow w G P) (j a b : Nat) : PRow ((w.setCell ⟨G, j * 2, none⟩ (.int .i64 (a : Int))).setCell ⟨G, j * 2 + 1, none⟩ (.int .i64 (b : Int))) G (P.set j (a, b)) := by
  have h1 := z_set_cells (z_set_cells h (j * 2) (.int .i64 (a : Int))) (j * 2 + 1) (.int .i64 (b : Int))
  unfold PRow Bx
  rw [← pt_set]
  simpa using h1
theorem make_pts (w : World) (n : Nat) (hn : n ≤ 1000000) : (Instr.makeSlice 114 (.int .i64 (n : Int)) (.int .i64 (n : Int))).run Tryd.prog w =
    .ok (.slice (some ⟨w.heap.size, 0, none⟩) n n) (w.alloc (.cells (gCells ptCell (List.replicate n (0, 0))).toArray 117)) := by
  obtain ⟨i0, hi, hz0, hz1, hz2⟩ := info_parts info_pt
  have h := run_make (P := Tryd.prog) w 114 117 i0 _ Tryd.underlying114 hi hz0 .i64 .i64 (n : Int) (n : Int) (by omega) (Int.le_refl _) (by rw [hz2]; omega) (by omega)
  rw [h, hz1]
  have hmem : ∀ v ∈ gCells ptCell (List.replicate n (0, 0)), v = Value.int .i64 0 := fun v hv => by
    obtain ⟨x, hx, hv⟩ := List.mem_flatMap.1 hv
    rw [List.mem_replicate] at hx
    rw [hx.2] at hv
    simp [ptCell] at hv
    exact hv
  have e : madeCells (Value.agg #[.int .i64 0, .int .i64 0]).cells (n * 2) = (gCells ptCell (List.replicate n (0, 0))).toArray := by
    apply Array.ext
    · have h9 := gCells_len (enc := ptCell) pt_len (List.replicate n (0, 0))
      rw [List.length_replicate] at h9
      simp [size_madeCells, h9]
    · intro i h1 h2
      have h8 : (gCells ptCell (List.replicate n (0, 0))).toArray[i] = Value.int .i64 0 := hmem _ (by simp)
      rw [h8]
      have h3 : i % 2 = 0 ∨ i % 2 = 1 := by omega
      rcases h3 with h3 | h3 <;> simp [madeCells, Value.cells, h3]
  simp only [Int.toNat_natCast]
  rw [e]

/-- The first ends are still to be told. -/
def fillP (W : List (List Int)) (l : List Int) (k : Nat) : List (Nat × Nat) := List.replicate k (0, 0) ++ prt W (l.drop k)
theorem fillP_all (W : List (List Int)) (l : List Int) : fillP W l l.length = List.replicate (l.length + 1) (0, 0) := by
  unfold fillP
  rw [List.drop_length, List.replicate_succ']; rfl
theorem fillP_none (W : List (List Int)) (l : List Int) : fillP W l 0 = prt W l := by unfold fillP; rfl
theorem fillP_len (W : List (List Int)) (l : List Int) {k : Nat} (h : k ≤ l.length) : (fillP W l k).length = l.length + 1 := by
  unfold fillP
  rw [List.length_append, List.length_replicate, prt_len, List.length_drop]; omega
theorem fillP_at (W : List (List Int)) (l : List Int) {k i : Nat} (h : k ≤ i) (hi : i ≤ l.length) : (fillP W l k)[i]? = some (cut W (l.drop i)) := by
  unfold fillP
  rw [List.getElem?_append_right (by rw [List.length_replicate]; exact h), List.length_replicate, prt_at W (l.drop k) (i - k) (by rw [List.length_drop]; omega), List.drop_drop]
  congr 3
  omega
theorem fillP_set (W : List (List Int)) (l : List Int) {k : Nat} (h : k < l.length) : (fillP W l (k + 1)).set k (cut W (l.drop k)) = fillP W l k := by
  unfold fillP
  have e : prt W (l.drop k) = cut W (l.drop k) :: prt W (l.drop (k + 1)) := by
    have h1 : l.drop k = l[k] :: l.drop (k + 1) := List.drop_eq_getElem_cons h
    have h2 : prt W (l.drop k) = (prt W (l.drop k)).headD (65, 0) :: prt W (l.drop (k + 1)) := by rw [h1]; rfl
    have h3 : (prt W (l.drop k)).headD (65, 0) = cut W (l.drop k) := by unfold cut; cases prt W (l.drop k) <;> rfl
    rw [h3] at h2; exact h2
  rw [e, List.replicate_succ', List.append_assoc, List.set_append_right _ _ (by rw [List.length_replicate]; exact Nat.le_refl _), List.length_replicate, Nat.sub_self]
  rfl
/-- What has been found, of the lengths that were handed on. -/
def accU (W : Rst) (l : List Int) (ns : List Nat) : Nat × Nat := ns.foldl (cutU (fun n => (cut W (l.drop n)).1)) (65, 0)
theorem accU_snoc (W : Rst) (l : List Int) (ns : List Nat) (n : Nat) : accU W l (ns ++ [n]) = cutU (fun n => (cut W (l.drop n)).1) (accU W l ns) n := by simp [accU]
theorem accU_bound (W : Rst) (l : List Int) (ns : List Nat) : (accU W l ns).1 ≤ 65 := by
  unfold accU
  have key : ∀ (ns : List Nat) (acc : Nat × Nat), acc.1 ≤ 65 → (ns.foldl (cutU (fun n => (cut W (l.drop n)).1)) acc).1 ≤ 65 := by
    intro ns
    induction ns with
    | nil => exact fun acc h => h
    | cons n ns ih =>
      intro acc h
      refine ih _ ?_
      unfold cutU
      split
      · rename_i h2; exact Nat.le_trans h2 h
      · exact h
  exact key ns _ (Nat.le_refl _)
end Go.Proofs.YtljaibhhkjapmaaDoor

/- Dawg.Out, last: what they answer. -/
namespace Go.Proofs.YtljaibhhkjapmaaDoor
open Go.RowKit Go.Shelf Go.Lib
attribute [local go_sem] Oper.semAt_some
set_option linter.unusedSimpArgs false
set_option linter.unusedVariables false

/-- An edge as it is handed out. -/
abbrev OEd := Int × Nat
def oeCell (e : OEd) : List Value := [.int .i32 e.1, .int .i64 (e.2 : Int)]
theorem oe_ln (x : OEd) : (oeCell x).length = 2 := rfl
theorem oe_one (x : OEd) : ∀ u ∈ oeCell x, u.oneCell' = true := by
  intro u hu
  simp only [oeCell, List.mem_cons, List.mem_nil_iff, or_false] at hu
  rcases hu with rfl | rfl <;> rfl
theorem info_oe : (Tryd.prog.info? 97).map (fun i => (i.zero, i.size, i.bytes)) = some (some (.agg #[.int .i32 0, .int .i64 0]), 2, 16) := by kernel_rfl
def oeOf (e : Edg) : OEd := (e.1, e.2.1)
/-- The edges of a state, as they are handed out. -/
def outE (Q : List Rst) (x : Rst) : List OEd := (edE Q x).map oeOf
theorem make_oes (w : World) (c : Nat) (hc : c ≤ 6000000) : ∃ w', (Instr.makeSlice 38 (.int .i64 0) (.int .i64 (c : Int))).run Tryd.prog w = .ok (.slice (some ⟨w.heap.size, 0, none⟩) 0 c) w' ∧
    w'.ownsRow w.heap.size 97 2 (.slice (some ⟨w.heap.size, 0, none⟩) 0 c) 0 [] ∧ w.grownBy w' none := by
  obtain ⟨i0, hi, hz0, hz1, hz2⟩ := info_parts info_oe
  exact run_make_own w w.heap.size 38 97 i0 _ 2 Tryd.underlying38 hi hz0 hz1 .i64 .i64 c (by rw [hz2]; omega) (by unfold maxLen; omega) (Nat.le_refl _)
theorem edE_bound {Q : List Rst} {L : List Wrd} (hk : DgOk Q L) {i : Nat} {x : Rst} (hx : Q[i]? = some x) : (edE Q x).length ≤ 6000000 ∧ ∀ e ∈ edE Q x, e.2.1 ≤ 6000000 := by
  refine ⟨?_, fun e he => ?_⟩
  · have h1 := edK_succ hx
    have h2 := (edK_le (Q := Q) (List.getElem?_eq_some_iff.1 hx).1).2
    rw [h1, List.length_append] at h2
    have := hk.em
    omega
  · unfold edE at he
    obtain ⟨r, _, rfl⟩ := List.mem_map.1 he
    have := hk.qm
    exact Nat.le_trans List.idxOf_le_length (by omega)
set_option maxRecDepth 100000 in
theorem outs_out (w : World) (d : Nat) (Q : List Rst) (L : List Wrd) (h : DgAt w d Q L) (hk : DgOk Q L) (a : Int) (ha : chkD Q a = 2) : Calls Tryd.prog 19 #[.pointer (some ⟨d, 0, none⟩), .int .i64 a] w fun e w' => e = .returned (.tuple #[.slice none 0 0, .int .i64 2]) ∧ w' = w := by
  have c1 := check_any w d Q L h hk a
  rw [ha] at c1
  have C1 := Lib.hid c1
  clear c1 h hk ha
  go_enter Tryd.func19, Tryd.ntmps19
  go_wp2_with fail
  refine C1.out.mono ?_
  rintro e w1 ⟨rfl, e1⟩
  obtain rfl := e1.symm
  go_wp2
  go_ret2
  exact ⟨rfl, rfl⟩
set_option maxRecDepth 100000 in
set_option maxHeartbeats 8000000 in
theorem outs_in (w : World) (d : Nat) (Q : List Rst) (L : List Wrd) (h : DgAt w d Q L) (hk : DgOk Q L) (i : Nat) (x : Rst) (hx : Q[i]? = some x) : Calls Tryd.prog 19 #[.pointer (some ⟨d, 0, none⟩), .int .i64 (i : Int)] w fun e w' => ∃ v, e = .returned (.tuple #[v, .int .i64 0]) ∧ GRuns oeCell 2 w' v (outE Q x) ∧ Below w.heap.size w w' := by
  have hi := (List.getElem?_eq_some_iff.1 hx).1
  have c1 := check_any w d Q L h hk (i : Int)
  have hc : chkD Q (i : Int) = 0 := by unfold chkD; rw [if_neg (by omega)]
  rw [hc] at c1
  have c2 := state_any w d Q L h i hi
  have c3 := fun w' (hb : Below w.heap.size w w') => out_any w' d Q L (h.below hb) hk i x hx
  obtain ⟨hem, hev⟩ := edE_bound hk hx
  obtain ⟨⟨s1, s2, s3⟩, hst⟩ : ∃ z, staL Q i = z := ⟨_, rfl⟩
  rw [hst] at c2 c3
  simp only [stCell] at c2 c3
  unfold outE
  obtain ⟨E, hE⟩ : ∃ z, edE Q x = z := ⟨_, rfl⟩
  rw [hE] at c3 hem hev ⊢
  obtain ⟨n, hn⟩ : ∃ z, E.length = z := ⟨_, rfl⟩
  rw [hn] at hem
  have C1 := Lib.hid c1; have C2 := Lib.hid c2; have C3 := Lib.hid c3; have HN := Lib.hid hn; have HEV := Lib.hid hev
  clear c1 c2 c3 h hk hst hx hi hc hE hn hev
  go_enter Tryd.func19, Tryd.ntmps19
  go_wp2_with fail
  refine C1.out.mono ?_
  rintro e w1 ⟨rfl, e1⟩
  obtain rfl := e1.symm
  go_wp2_with fail
  refine C2.out.mono ?_
  rintro e w2 ⟨rfl, b2⟩
  have c3 := C3.out w2 b2
  have C4 := Lib.hid c3; have B2 := Lib.hid b2
  clear b2 c3 C3
  go_wp2_with fail
  refine C4.out.mono ?_
  rintro e w3 ⟨v, rfl, hg3, b3⟩
  have hb3 := B2.out.trans (b3.mono B2.out.size)
  obtain ⟨A, c, ev⟩ := hg3.slice
  rw [HN.out] at ev
  subst ev
  obtain ⟨w4, hmk, hown, hg4⟩ := make_oes w3 n hem
  have hb4 : Below w3.heap.size w3 w4 := (Below.refl _ _).grown hg4 (Nat.le_refl _) (fun k e => by cases e)
  obtain ⟨n1, hn1⟩ : ∃ z, w3.heap.size = z := ⟨_, rfl⟩
  rw [hn1] at hown hb4
  have hR0 : Hid (w4.ownsRow n1 97 2 (.slice (some ⟨n1, 0, none⟩) 0 n) 0 (gCells oeCell ((E.take 0).map oeOf))) := Lib.hid hown
  have hB0 : Hid (Below n1 w3 w4) := Lib.hid hb4
  have HB3 := Lib.hid hb3; have HG3 := Lib.hid hg3; have HN1 := Lib.hid hn1
  clear b3 hb3 hg3 hown hg4 hb4 C4
  go_wp2
  try rw [HN1.out]
  clear hmk
  go_loopw [8, 27] (fun s8 s27 wr => ∃ (j : Nat) (vo : Value), s8 = vo ∧ s27 = .int .i64 j ∧ j ≤ n ∧ Hid (wr.ownsRow n1 97 2 vo j (gCells oeCell ((E.take j).map oeOf))) ∧ Hid (Below n1 w3 wr)) (fun _ s27 _ => n - (RowKit.intOf s27).toNat)
  case atStart => exact ⟨0, _, rfl, rfl, Nat.zero_le _, hR0, hB0⟩
  case round =>
    obtain ⟨j, vo, rfl, rfl, hjn, HR, HB⟩ := hrel
    by_cases hj : j < n
    · obtain ⟨⟨y1, y2, y3⟩, hy⟩ : ∃ y, E[j]? = some y := ⟨_, List.getElem?_eq_getElem (by rw [HN.out]; exact hj)⟩
      have hbr : Below w3.heap.size w3 wr := by rw [HN1.out]; exact HB.out
      obtain ⟨b, o, rfl, hlt, hc⟩ := (HG3.out.below hbr).cells HN.out (by omega)
      have g0 := hc j _ hy 0 _ rfl
      have g1 := hc j _ hy 1 _ rfl
      have g2 := hc j _ hy 2 _ rfl
      simp only [Nat.add_zero] at g0 g1 g2
      have i1 : (j : Int) < (n : Int) := by omega
      have hy2 : y2 ≤ 6000000 := HEV.out _ (List.mem_of_getElem? hy)
      have wk : wrap64 (y2 : Int) = (y2 : Int) := by unfold wrap64; omega
      have hal := bel_one wr (.cells #[.int .i32 y1, .int .i32 (y2 : Int), .int .i32 (y3 : Int)] 95)
      obtain ⟨W1, hW1⟩ : ∃ z, wr.alloc (.cells #[.int .i32 y1, .int .i32 (y2 : Int), .int .i32 (y3 : Int)] 95) = z := ⟨_, rfl⟩
      have hbx := bx_new wr 95 #[.int .i32 y1, .int .i32 (y2 : Int), .int .i32 (y3 : Int)]
      obtain ⟨B, hB⟩ : ∃ z, wr.heap.size = z := ⟨_, rfl⟩
      rw [hW1] at hal hbx
      rw [hB] at hbx
      have hr1 := z_own_below HR.out hal
      have hn1W : n1 ≤ wr.heap.size := by rw [← HN1.out]; exact hbr.size
      obtain ⟨v9, w9, hrun, hown9, hgr9, hblk9⟩ := append_one (P := Tryd.prog) oe_ln oe_one info_oe rfl (by decide) (by decide) Tryd.underlying38 W1 n1 _ j _ hr1 (y1, y2) (Nat.le_trans hn1W hal.size) (by omega)
      have htk : (E.take (j + 1)).map oeOf = (E.take j).map oeOf ++ [(y1, y2)] := by rw [List.take_add_one, hy]; simp [oeOf]
      have hown : Hid (w9.ownsRow n1 97 2 v9 (j + 1) (gCells oeCell ((E.take (j + 1)).map oeOf))) := Lib.hid (by rw [htk, gCells_snoc]; exact hown9)
      have hb9 : Hid (Below n1 w3 w9) := Lib.hid ((HB.out.trans ((hal.trans ((bel_one W1 (.cells (oeCell (y1, y2)).toArray 97)).mono hal.size)).mono hn1W)).grown hgr9 (by simp; have := hal.size; omega) (fun r e => by
        rcases hr1.2 with ⟨e2, _⟩ | ⟨g, cap, cur, e2, hb, _⟩
        · rw [e2] at e; cases e
        · rw [e2] at e
          have : g = r := by simpa [Value.ownBlock] using e
          omega))
      obtain ⟨c0, c1, c2⟩ := hbx.three
      have HRUN := Lib.hid hrun; have HW1 := Lib.hid hW1; have HBB := Lib.hid hB
      clear hc hy hbr hlt hal hbx hr1 hn1W hrun hown9 hgr9 hblk9 htk hW1 hB HR HB hy2
      go_wp2_with (first
        | (rw [HW1.out, HBB.out])
        | (at_builtin; refine wpList_append_run (.tmp 31) (.tmp 38) 38 _ _ _ _ HRUN.out rfl rfl rfl rfl ?_))
      exact ⟨⟨j + 1, _, rfl, by go_num, by omega, hown, hb9⟩, by simp [RowKit.intOf]; omega⟩
    · obtain rfl : j = n := by omega
      have i1 : ¬ (j : Int) < (j : Int) := by omega
      have hEt : E.take j = E := List.take_of_length_le (by rw [HN.out]; exact Nat.le_refl _)
      rw [hEt] at HR
      have hfin := GRuns.of_own oe_ln (by rw [List.length_map, HN.out]) HR.out
      have hbf := HB3.out.trans (Below.mono HB.out (by rw [← HN1.out]; exact HB3.out.size))
      have HF := Lib.hid hfin; have HBF := Lib.hid hbf
      clear hfin hbf hEt
      go_wp2
      go_ret2
      exact ⟨_, rfl, HF.out, HBF.out⟩
/-- The last edge that has not more ahead. -/
theorem last_any (A : Option Addr) (n c : Nat) (l : List Edg) (w : World) (hn : l.length = n) (hu : GRuns edCell 3 w (.slice A n c) l) (hl : n ≤ 6000000) (a : Nat) (ha : a ≤ 2000000000) (k : Nat) (y : Edg) (hk : l[k]? = some y)
    (h1 : ∀ j z, j ≤ k → l[j]? = some z → z.2.2 ≤ a) (h2 : ∀ j z, k < j → l[j]? = some z → a < z.2.2) :
    Calls Tryd.prog 123 #[.slice A n c, .int .i32 (a : Int)] w fun e w' => e = .returned (.agg (edCell y).toArray) ∧ Below w.heap.size w w' := by
  have hkn : k < n := by rw [← hn]; exact (List.getElem?_eq_some_iff.1 hk).1
  have cb := fun w' (hu' : GRuns edCell 3 w' (.slice A n c) l) => ebsA_any A n c l ((a : Int) + 1) w' hn hu' hl (k + 1) hkn (fun j z hj hz => by have := h1 j z (by omega) hz; unfold keyA; omega) (fun j z hj hz => by have := h2 j z (by omega) hz; unfold keyA; omega)
  obtain ⟨fd, hfd⟩ : ∃ z, eAt keyA l (k + 1) ((a : Int) + 1) = z := ⟨_, rfl⟩
  rw [hfd] at cb
  obtain ⟨K, hK⟩ : ∃ z, k + 1 = z := ⟨_, rfl⟩
  rw [hK] at cb
  have hwr : IntKind.i32.wrap ((a : Int) + 1) = (a : Int) + 1 := by rw [IntKind.wrap_i32]; omega
  have hw2 : IntKind.i64.wrap ((K : Int) - 1) = (k : Int) := by rw [IntKind.wrap_i64]; omega
  obtain ⟨y1, y2, y3⟩ := y
  show Calls Tryd.prog _ _ w fun e w' => e = .returned (.agg #[.int .i32 y1, .int .i32 (y2 : Int), .int .i32 (y3 : Int)]) ∧ _
  have i1 : (k : Int) < (n : Int) := by omega
  have HB0 : Hid (∀ o : Obj, Below w.heap.size w (w.alloc o)) := Lib.hid (fun o => bel_one w o)
  have HX0 : Hid (Bx (w.alloc (.cells #[.int .i32 0, .int .i32 0, .int .i32 0] 95)) w.heap.size 95 #[.int .i32 0, .int .i32 0, .int .i32 0]) := Lib.hid (bx_new _ _ _)
  have CB := Lib.hid cb; have HN := Lib.hid hn; have HK := Lib.hid hk; have HU := Lib.hid hu
  clear cb hfd hK h1 h2 hu hn hk ha hl
  go_enter Tryd.func123, Tryd.ntmps123
  go_wp2_with fail
  refine (CB.out _ (HU.out.below (HB0.out _))).mono ?_
  rintro e w2 ⟨rfl, bb2⟩
  have bx2 := HX0.out.below bb2
  have bl2 := (HB0.out _).trans (bb2.mono (HB0.out _).size)
  have hs2 : w.heap.size + 1 ≤ w2.heap.size := by have := bb2.size; simpa using this
  obtain ⟨b, o, rfl, hlt, hc⟩ := (HU.out.below bl2).cells HN.out (by omega)
  have g0 := hc k _ HK.out 0 _ rfl
  have g1 := hc k _ HK.out 1 _ rfl
  have g2 := hc k _ HK.out 2 _ rfl
  simp only [Nat.add_zero] at g0 g1 g2
  obtain ⟨k0, k1, k2⟩ := bx2.three
  have f0 := bx2.thaw 0; have f1 := bx2.thaw 1; have f2 := bx2.thaw 2
  have z3 := bx2.set3 (.int .i32 y1) (.int .i32 (y2 : Int)) (.int .i32 (y3 : Int))
  have l3 := bel_set3 bl2 (by omega) w.heap.size (.int .i32 y1) (.int .i32 (y2 : Int)) (.int .i32 (y3 : Int)) (Nat.le_refl _)
  have Z3 := Lib.hid z3; have L3 := Lib.hid l3
  clear z3 l3 hc bb2 bx2 bl2 CB HX0 HB0 HU HK hlt
  go_wp2
  obtain ⟨q0, q1, q2⟩ := Z3.out.three
  refine bodyPost_ret (v := .agg #[.int .i32 y1, .int .i32 (y2 : Int), .int .i32 (y3 : Int)]) ?_ rfl ⟨rfl, L3.out⟩
  simp [results, Tryd.f123, go_sem, q0, q1, q2]
end Go.Proofs.YtljaibhhkjapmaaDoor

