/- errataref10.visit, walked: a state of some rests, and all that it leads to. -/
import Derived.Test.YtljaibhhkjapmaaDoorKVisB
import Derived.Test.YtljaibhhkjapmaaDoorKVis
namespace Go.Proofs.YtljaibhhkjapmaaDoor
open Go.RowKit Go.Shelf
attribute [local go_sem] Oper.semAt_some
set_option linter.unusedSimpArgs false
set_option linter.unusedVariables false

theorem info_stv : (Tryd.prog.info? 37).map (fun i => (i.zero, i.size, i.bytes)) = some (some (.agg #[.slice none 0 0, .bool false, .slice none 0 0]), 3, 56) := by kernel_rfl
theorem info_oe2 : (Tryd.prog.info? 98).map (fun i => (i.zero, i.size, i.bytes)) = some (some (.agg #[.int .i32 0, .int .i64 0]), 2, 16) := by kernel_rfl
/-- What a visit answers, and what it keeps. -/
def VisPost (n : Nat) (w : World) (base : Nat) (v : Value) (S : List (StD Int)) (q : List (List Int)) (R : Nat → Prop) (e : Ending) (w' : World) : Prop :=
  ∃ A c T, e = .returned (.tuple #[.slice A (visS n S q).1.length c, .int .i64 ((visS n S q).2 : Int)]) ∧ StRow w' base (.slice A (visS n S q).1.length c) (visS n S q).1 T R ∧ w.grownBy w' v.ownBlock ∧ RowOn w v.ownBlock (Value.slice A (visS n S q).1.length c).ownBlock
def VisP (n : Nat) : Prop := ∀ (w : World) (base : Nat) (A : Option Addr) (N c : Nat) (u : Value) (S : List (StD Int)) (T : List StV) (q : List (List Int)) (R : Nat → Prop), S.length = N → StRow w base (.slice A N c) S T R → RsX w u q (XR (.slice A N c) R) → base ≤ w.heap.size → (∀ k, R k → k < w.heap.size) →
  ltrs q < n → (visS n S q).1.length ≤ 100000 → q.length ≤ 2000000 → Calls Tryd.prog 47 #[.slice A N c, u] w (VisPost n w base (.slice A N c) S q R)
/-- A row of states as it has grown by one. -/
theorem append_stv (w : World) (base : Nat) (v : Value) (S : List (StD Int)) (T : List StV) (R : Nat → Prop) (N : Nat) (hN : S.length = N) (h : StRow w base v S T R) (t : StV) (s : StD Int) (ht : StX w t s (XR v R)) (hbase : base ≤ w.heap.size) (hlen : N ≤ 100000) :
    ∃ v' w', (Builtin.append_ #[30, 30] 30 #[v, .slice (some ⟨w.heap.size, 0, none⟩) 1 1]).run Tryd.prog (w.alloc (.cells (stv t).toArray 37)) = .ok v' w' ∧ StRow w' base v' (S ++ [s]) (T ++ [t]) R ∧ w.grownBy w' v.ownBlock ∧ RowOn w v.ownBlock v'.ownBlock := by
  subst hN
  obtain ⟨v', w', h1, h2, h3, h4⟩ := append_one (P := Tryd.prog) (enc := stv) stv_ln stv_one info_stv rfl (by decide) (by decide) Tryd.underlying30 w base v S.length _ h.own t hbase (by omega)
  have hg : w.grownBy w' v.ownBlock := (World.grownBy_alloc _ _ _).trans h3
  have hr : RowOn w v.ownBlock v'.ownBlock := by
    rcases h4 with h4 | h4
    · exact .inl h4
    · exact .inr ⟨_, h4, by omega⟩
  exact ⟨v', w', h1, h.push t s hg hr h2 ht, hg, hr⟩
/-- Where the rests are met already. -/
structure Srch (S : List (StD Int)) (q : List (List Int)) (k : Nat) : Prop where
  no : ∀ j s, j < k → S[j]? = some s → s.1 ≠ q

theorem grown_new {w w1 w2 : World} {a r : Option Nat} (h : w.grownBy w1 a) (k : w1.grownBy w2 r) (hr : ∀ i, r = some i → w.heap.size ≤ i) : w.grownBy w2 a :=
  ⟨k.os.trans h.os, k.tape.trans h.tape, k.output.trans h.output, Nat.le_trans h.size k.size, fun i hi hne => (k.block i (Nat.lt_of_lt_of_le hi h.size) (fun e => by have := hr i e.symm; omega)).trans (h.block i hi hne)⟩
/-- Some blocks, and a row's own. -/
def RO (R : Nat → Prop) (vo : Value) (i : Nat) : Prop := R i ∨ vo.ownBlock = some i
/-- What lies there while the edges of a state are told. -/
structure VisI (w4 : World) (base g : Nat) (R : Nat → Prop) (F : List (StD Int) × List OEd) (va vo : Value) (k : Nat) (W : World) : Prop where
  row : ∃ T, StRow W base va F.1 T (RO R vo)
  out : W.ownsRow w4.heap.size 98 2 vo k (gCells oeCell F.2)
  grown : w4.grownBy W (some g)
  on : RowOn w4 (some g) va.ownBlock
theorem VisI.ask {w4 W : World} {base g k : Nat} {R : Nat → Prop} {F : List (StD Int) × List OEd} {va vo : Value} (h : VisI w4 base g R F va vo k W) (hR : ∀ i, R i → i < w4.heap.size) : (∀ i, RO R vo i → i < W.heap.size) ∧ ∀ i, XR va (RO R vo) i → i < W.heap.size := by
  have h1 : ∀ i, RO R vo i → i < W.heap.size := fun i hi => by
    rcases hi with hi | hi
    · exact Nat.lt_of_lt_of_le (hR i hi) h.grown.size
    · exact own_lt' h.out i hi
  refine ⟨h1, fun i hi => ?_⟩
  rcases hi with hi | hi
  · obtain ⟨T, hT⟩ := h.row
    exact own_lt' hT.own i hi
  · exact h1 i hi
theorem VisI.on_ {w4 W : World} {base g k n cap : Nat} {R : Nat → Prop} {F : List (StD Int) × List OEd} {va vo : Value} (h : VisI w4 base g R F va vo k W) : XOn w4 (XR (.slice (some ⟨g, 0, none⟩) n cap) R) (XR va (RO R vo)) := fun i hi => by
  rcases hi with hi | hi | hi
  · rcases h.on with h1 | ⟨m, h1, h2⟩
    · rw [h1] at hi; exact .inl (.inl hi)
    · rw [h1] at hi; cases hi; exact .inr h2
  · exact .inl (.inr hi)
  · exact .inr (own_block h.out i hi)
theorem VisI.rests {w4 W : World} {base g k n cap : Nat} {R : Nat → Prop} {F : List (StD Int) × List OEd} {va vo u : Value} {q : List (List Int)} (h : VisI w4 base g R F va vo k W) (hu : RsX w4 u q (XR (.slice (some ⟨g, 0, none⟩) n cap) R)) : RsX W u q (XR va (RO R vo)) :=
  hu.grown h.grown (fun i e => .inl e) h.on_
theorem VisI.heads {w4 W : World} {base g k n cap : Nat} {R : Nat → Prop} {F : List (StD Int) × List OEd} {va vo vh : Value} {l : List Int} (h : VisI w4 base g R F va vo k W) (hu : Runs w4 vh l) (ha : Apt vh (XR (.slice (some ⟨g, 0, none⟩) n cap) R)) : Runs W vh l :=
  hu.aprt ha h.grown (fun i e => .inl e)
/-- One rune on: a visit, an edge. -/
theorem VisI.step {w4 W w5 w6 w7 : World} {base g k : Nat} {R : Nat → Prop} {F : List (StD Int) × List OEd} {va vo v6 vo7 : Value} {S6 : List (StD Int)} {T6 : List StV} {e : OEd} (h : VisI w4 base g R F va vo k W) (hb : Below W.heap.size W w5)
    (h6 : StRow w6 base v6 S6 T6 (RO R vo)) (hg6 : w5.grownBy w6 va.ownBlock) (hr6 : RowOn w5 va.ownBlock v6.ownBlock) (hg7 : w6.grownBy w7 vo.ownBlock) (hr7 : RowOn w6 vo.ownBlock vo7.ownBlock)
    (ho7 : w7.ownsRow w4.heap.size 98 2 vo7 (k + 1) (gCells oeCell (F.2 ++ [e]))) (hout : w6.ownsRow w4.heap.size 98 2 vo k (gCells oeCell F.2)) : VisI w4 base g R (S6, F.2 ++ [e]) v6 vo7 (k + 1) w7 := by
  have h5 : w4.grownBy w5 (some g) := grown_new h.grown (below_grown hb none) (fun i e => by cases e)
  have h6g := grown_on h5 h.on hg6
  refine ⟨⟨T6, h6.grown hg7 (own_apart h6.own hout (by decide)) (fun i e => .inr e) (fun i hi => ?_)⟩, ho7, grown_new h6g hg7 (fun i e => own_block hout i e), h.on.trans h5.size hr6⟩
  rcases hi with hi | hi
  · exact .inl (.inl hi)
  · rcases hr7 with h1 | ⟨m, h1, h2⟩
    · rw [h1] at hi; exact .inl (.inr hi)
    · rw [h1] at hi; cases hi; exact .inr h2
/-- The row of edges where a visit has come between. -/
theorem VisI.mid {w4 W w5 w6 : World} {base g k : Nat} {R : Nat → Prop} {F : List (StD Int) × List OEd} {va vo : Value} (h : VisI w4 base g R F va vo k W) (hb : Below W.heap.size W w5) (hg6 : w5.grownBy w6 va.ownBlock) : w6.ownsRow w4.heap.size 98 2 vo k (gCells oeCell F.2) := by
  obtain ⟨T, hT⟩ := h.row
  exact (z_own_below h.out hb).kept hg6 (own_apart h.out hT.own (by decide))
/-- The end: the edges are stored. -/
theorem VisI.end_ {w4 W : World} {base g k M cap N g' : Nat} {R : Nat → Prop} {F : List (StD Int) × List OEd} {q : List (List Int)} {b : Bool} {l0 : List OEd} {Ao : Option Addr} {co : Nat} (h : VisI w4 base g R F (.slice (some ⟨g', 0, none⟩) M cap) (.slice Ao k co) k W) (hR : ∀ i, R i → i < w4.heap.size) (hk : F.2.length = k) (hN : F.1[N]? = some (q, b, l0)) :
    ∃ T, StRow (W.setCell ⟨g', N * 3 + 2, none⟩ (.slice Ao k co)) base (.slice (some ⟨g', 0, none⟩) M cap) (F.1.set N (q, b, F.2)) T R := by
  obtain ⟨T, hT⟩ := h.row
  obtain ⟨t, ht⟩ : ∃ t, T[N]? = some t := ⟨_, List.getElem?_eq_getElem (by rw [hT.len]; exact (List.getElem?_eq_some_iff.1 hN).1)⟩
  have hx := hT.each N t _ ht hN
  have hl : XOn W (RO R (.slice Ao k co)) R := fun i hi => .inl (.inl hi)
  have hl2 : XOn W (XR (.slice (some ⟨g', 0, none⟩) M cap) (RO R (.slice Ao k co))) (XR (.slice (some ⟨g', 0, none⟩) M cap) R) := fun i hi => .inl (hi.imp_right .inl)
  have hap : Apt (.slice Ao k co) (XR (.slice (some ⟨g', 0, none⟩) M cap) R) := own_apt h.out (fun i hi e => by
    rcases hi with hi | hi
    · rcases own_apart h.out hT.own (by decide) with h1 | h1
      · rw [h1] at e; cases e
      · exact h1 (e.trans hi.symm)
    · have := own_block h.out i e
      have := hR i hi
      omega)
  exact ⟨_, (hT.less hl).set_ ht hN (t' := (t.1, t.2.1, (Ao, k, co))) 2 _ (by omega) rfl ⟨hx.1.less hl2, hx.2.1, GRuns.of_own oe_ln hk h.out, hap⟩⟩
set_option maxRecDepth 100000 in
set_option maxHeartbeats 32000000 in
theorem visit_step (n : Nat) (IH : VisP n) : VisP (n + 1) := by
  intro w base A N c u S T q R hN hS hU hbase hRlt hq hlen hql
  obtain ⟨Au, cu, eu⟩ := hU.slice
  obtain ⟨nq, hnq⟩ : ∃ z, q.length = z := ⟨_, rfl⟩
  rw [hnq] at eu hql
  subst eu
  have hNl : N ≤ 100000 := by have := visS_le (n + 1) S q; omega
  have hN1 : S.length = N := hN
  have HS := Lib.hid hS; have HU := Lib.hid hU; have HN := Lib.hid hN; have HNQ := Lib.hid hnq; have HBASE := Lib.hid hbase; have HRLT := Lib.hid hRlt; have HQ := Lib.hid hq; have HLEN := Lib.hid hlen; have HIH := Lib.hid IH
  clear hS hU hN hN1 hnq hbase hRlt hq hlen IH
  go_enter Tryd.func47, Tryd.ntmps47
  go_wp2
  go_loopw [17] (fun s17 wr => ∃ k : Nat, k ≤ N ∧ s17 = .int .i64 (k : Int) ∧ Hid (Srch S q k) ∧ Hid (Below w.heap.size w wr)) (fun s17 _ => N - (RowKit.intOf s17).toNat)
  case atStart => exact ⟨0, Nat.zero_le _, rfl, Lib.hid ⟨fun j s h => by omega⟩, Lib.hid (Below.refl _ _)⟩
  case round =>
    obtain ⟨k, hkn, rfl, HC, HB⟩ := hrel
    by_cases hk : k < N
    · have k1 : (k : Int) < (N : Int) := by omega
      obtain ⟨s, hs⟩ : ∃ s, S[k]? = some s := ⟨_, List.getElem?_eq_getElem (by rw [HN.out]; exact hk)⟩
      obtain ⟨g, cap, t, ev, hbg, hlt, ht, hx, g0, g1, g2⟩ := (HS.out.below HB.out).at_ HN.out hs
      cases ev
      obtain ⟨⟨x0, x1, x2⟩, tb, ⟨y0, y1, y2⟩⟩ := t
      have hx1 : RsX wr (.slice x0 x1 x2) s.1 _ := hx.1
      have hal := bel_one wr (.cells #[.slice x0 x1 x2, .bool tb, .slice y0 y1 y2] 37)
      have hbx := bx_new wr 37 #[.slice x0 x1 x2, .bool tb, .slice y0 y1 y2]
      have hcs := fun w' (hb : Below wr.heap.size wr w') => rsame_any (.slice x0 x1 x2) (.slice Au nq cu) s.1 q _ _ w' (hx1.below hb) ((HU.out.below HB.out).below hb)
      obtain ⟨sq, hsq⟩ : ∃ z, decide (s.1 = q) = z := ⟨_, rfl⟩
      simp only [hsq] at hcs
      change wr.cell? ⟨g, k * 3, none⟩ = some (.slice x0 x1 x2) at g0
      change wr.cell? ⟨g, k * 3 + 1, none⟩ = some (.bool tb) at g1
      change wr.cell? ⟨g, k * 3 + 2, none⟩ = some (.slice y0 y1 y2) at g2
      obtain ⟨W1, hW1⟩ : ∃ z, wr.alloc (.cells #[.slice x0 x1 x2, .bool tb, .slice y0 y1 y2] 37) = z := ⟨_, rfl⟩
      obtain ⟨B, hB⟩ : ∃ z, wr.heap.size = z := ⟨_, rfl⟩
      rw [hW1] at hal hbx
      rw [hB] at hbx
      obtain ⟨c0, c1, c2⟩ := hbx.three
      have hbn := HB.out.trans (hal.mono HB.out.size)
      have CS := Lib.hid (hcs _ hal); have HW1 := Lib.hid hW1; have HBB := Lib.hid hB; have HBN := Lib.hid hbn; have HSQ := Lib.hid hsq; have HSS := Lib.hid hs
      clear hcs hW1 hB hbn hal hbx hsq hs ht hx hx1 hlt hbg
      cases sq
      · go_wp2_with (first
          | (rw [HW1.out, HBB.out])
          | (go_at_call 76; refine CS.out.mono ?_; rintro e w5 ⟨rfl, b5⟩; have HB5 := Lib.hid (HBN.out.trans (b5.mono HBN.out.size)); clear b5))
        exact ⟨⟨k + 1, by omega, by go_num, Lib.hid ⟨fun j s' hj hs' => by
          by_cases h9 : j < k
          · exact HC.out.no j s' h9 hs'
          · obtain rfl : j = k := by omega
            rw [HSS.out] at hs'
            cases hs'
            exact of_decide_eq_false HSQ.out⟩, HB5⟩, by simp [RowKit.intOf]; omega⟩
      · have hv := visS_old n S q HSS.out (of_decide_eq_true HSQ.out) HC.out.no
        have HV := Lib.hid hv
        clear hv
        go_wp2_with (first
          | (rw [HW1.out, HBB.out])
          | (go_at_call 76; refine CS.out.mono ?_; rintro e w5 ⟨rfl, b5⟩; have HB5 := Lib.hid (HBN.out.trans (b5.mono HBN.out.size)); clear b5))
        go_ret2
        unfold VisPost
        rw [HV.out]
        simp only [HN.out]
        exact ⟨_, _, T, rfl, HS.out.below HB5.out, below_grown HB5.out _, RowOn.refl _ _⟩
    · obtain rfl : k = N := by omega
      have hnone := visS_none (all := S) (q := q) (fun j s hj hs => HC.out.no j s (by rw [← HN.out]; exact hj) hs)
      have hnew := visS_new n S q hnone
      rw [HN.out] at hnew
      obtain ⟨nh, hnh⟩ : ∃ z, (hdsR q).length = z := ⟨_, rfl⟩
      rw [hnh] at hnew
      have hlen := HLEN.out
      rw [hnew] at hlen
      simp only [List.length_set] at hlen
      have hbw := HB.out
      have hSw := HS.out.below hbw
      have hUw := HU.out.below hbw
      obtain ⟨v1, w1, hrun, hS1, hg1, hr1⟩ := append_stv wr base _ S T R k HN.out hSw ((Au, nq, cu), false, (none, 0, 0)) (q, false, []) ⟨hUw, rfl, EdX.nil _ _⟩ (Nat.le_trans HBASE.out hbw.size) hNl
      change (Builtin.append_ _ _ _).run _ (wr.alloc (.cells #[.slice Au nq cu, .bool false, .slice none 0 0] 37)) = _ at hrun
      obtain ⟨g, cap, e1, hbg, hlt1, hcp1, hcp2, _⟩ := z_own_form hS1.own (by rw [List.length_append, HN.out]; simp)
      rw [List.length_append, HN.out] at e1
      change v1 = .slice (some ⟨g, 0, none⟩) (k + 1) cap at e1
      subst e1
      have hU1 := hUw.grown (Y := XR (.slice (some ⟨g, 0, none⟩) (k + 1) cap) R) hg1 (fun i e => .inl e) (xr_on hr1)
      have hgw : w.grownBy w1 (Value.slice A k c).ownBlock := grown_on (below_grown hbw _) (RowOn.refl _ _) hg1
      have hrw : RowOn w (Value.slice A k c).ownBlock (some g) := (RowOn.refl w _).trans hbw.size hr1
      have hS1' : StRow w1 base (.slice (some ⟨g, 0, none⟩) (k + 1) cap) (S ++ [(q, decide ([] ∈ q.take 0), [])]) (T ++ [((Au, nq, cu), false, (none, 0, 0))]) R := hS1
      have HRUN := Lib.hid hrun; have HS1 := Lib.hid hS1'; have HU1 := Lib.hid hU1; have HGW := Lib.hid hgw; have HRW := Lib.hid hrw; have HNEW := Lib.hid hnew; have HLN := Lib.hid hlen; have HNH := Lib.hid hnh; have HLT1 := Lib.hid hlt1; have HBG := Lib.hid hbg
      have HR1 : Hid (∀ i, R i → i < w1.heap.size) := Lib.hid (fun i hi => Nat.lt_of_lt_of_le (HRLT.out i hi) (hgw.size))
      have HBS1 : Hid (base ≤ w1.heap.size) := Lib.hid (Nat.le_trans HBASE.out hgw.size)
      clear hnone hnew hlen hbw hSw hUw hrun hS1 hS1' hg1 hr1 hU1 hgw hrw hnh hlt1 hbg HS HU HC HB
      go_wp2_with (at_builtin; refine wpList_append_run (.tmp 31) (.tmp 34) 30 _ _ _ _ HRUN.out rfl rfl rfl rfl ?_)
      clear HRUN
      go_loopw [38] (fun s38 wr => ∃ j : Nat, j ≤ nq ∧ s38 = .int .i64 (j : Int) ∧ Hid (∃ T, StRow wr base (.slice (some ⟨g, 0, none⟩) (k + 1) cap) (S ++ [(q, decide ([] ∈ q.take j), [])]) T R) ∧ Hid (w1.grownBy wr (some g))) (fun s38 _ => nq - (RowKit.intOf s38).toNat)
      case atStart => exact ⟨0, Nat.zero_le _, rfl, Lib.hid ⟨_, HS1.out⟩, Lib.hid (World.grownBy.refl _ _)⟩
      case round =>
        obtain ⟨j, hjn, rfl, HST, HG⟩ := hrel
        by_cases hj : j < nq
        · have j1 : (j : Int) < (nq : Int) := by omega
          obtain ⟨x, hx⟩ : ∃ x, q[j]? = some x := ⟨_, List.getElem?_eq_getElem (by rw [HNQ.out]; exact hj)⟩
          obtain ⟨b, o, t, rfl, c1, r1, _⟩ := (HU1.out.grown (Y := XR (.slice (some ⟨g, 0, none⟩) (k + 1) cap) R) HG.out (fun i e => .inl e) (XOn.refl _ _)).at_ HNQ.out hx
          have htk : q.take (j + 1) = q.take j ++ [x] := by rw [List.take_add_one, hx]; rfl
          obtain ⟨nx, hnx⟩ : ∃ z, x.length = z := ⟨_, rfl⟩
          rw [hnx] at c1
          by_cases hx0 : x = []
          · obtain ⟨T2, hT2⟩ := HST.out
            have hat : (S ++ [(q, decide ([] ∈ q.take j), ([] : List OEd))])[k]? = some (q, decide ([] ∈ q.take j), []) := by rw [List.getElem?_append_right (by rw [HN.out]; exact Nat.le_refl _), HN.out, Nat.sub_self]; rfl
            obtain ⟨g', cap', t2, e', _, _, ht2, hx2, d0, d1, d2⟩ := hT2.at_ (n := k + 1) (by rw [List.length_append, HN.out]; rfl) hat
            cases e'
            have hs2 := hT2.set_ ht2 hat (t' := (t2.1, true, t2.2.2)) (s' := (q, decide ([] ∈ q.take (j + 1)), [])) 1 (.bool true) (by omega) rfl ⟨hx2.1, by rw [htk, hx0]; simp, hx2.2.2⟩
            rw [List.set_append_right _ _ (by rw [HN.out]; exact Nat.le_refl _), HN.out, Nat.sub_self] at hs2
            have hsf := hT2.thaw (k * 3 + 1)
            have HS2 := Lib.hid hs2
            have hg2 := grown_on HG.out (RowOn.refl _ _) (z_grown_set wr g (k * 3 + 1) (.bool true))
            have HG2 := Lib.hid hg2
            have l0 : nx = 0 := by rw [← hnx, hx0]; rfl
            subst l0
            have z0 : ((0 : Int) == (0 : Int)) = true := rfl
            have z1 : (k : Int) < ((k + 1 : Nat) : Int) := by omega
            have z2 : k < k + 1 := by omega
            have z3 : (0 : Int) ≤ (k : Int) := by omega
            clear hx htk hnx hx0 hT2 hat ht2 hx2 hs2 hg2 r1 d0 d2 HST
            go_wp2
            exact ⟨⟨j + 1, by omega, by go_num, Lib.hid ⟨_, HS2.out⟩, HG2⟩, by simp [RowKit.intOf]; omega⟩
          · have e0 : ((nx : Int) == (0 : Int)) = false := by
              have : nx ≠ 0 := fun e => hx0 (List.eq_nil_of_length_eq_zero (hnx.trans e))
              simpa using this
            have hs2 : decide ([] ∈ q.take (j + 1)) = decide ([] ∈ q.take j) := by
              rw [htk]
              simp [Ne.symm hx0]
            have HS2 := Lib.hid hs2
            clear hx htk hnx hx0 hs2 r1
            go_wp2
            exact ⟨⟨j + 1, by omega, by go_num, by rw [HS2.out]; exact HST, HG⟩, by simp [RowKit.intOf]; omega⟩
        · obtain rfl : j = nq := by omega
          have hfull : q.take j = q := List.take_of_length_le (by rw [HNQ.out]; exact Nat.le_refl _)
          rw [hfull] at HST
          have hU3 := HU1.out.grown (Y := XR (.slice (some ⟨g, 0, none⟩) (k + 1) cap) R) HG.out (fun i e => .inl e) (XOn.refl _ _)
          have hX3 : ∀ i, XR (.slice (some ⟨g, 0, none⟩) (k + 1) cap) R i → i < wr.heap.size := fun i hi => by
            rcases hi with hi | hi
            · have e : g = i := Option.some.inj hi
              have h1 := HLT1.out
              have h2 := HG.out.size
              omega
            · exact Nat.lt_of_lt_of_le (HR1.out i hi) HG.out.size
          have hcall := rheads_any (.slice Au j cu) q _ wr hU3 (by rw [HNQ.out]; exact hql) hX3
          have HCALL := Lib.hid hcall; have HU3 := Lib.hid hU3; have HX3 := Lib.hid hX3
          clear hcall hU3 hX3 hfull
          go_wp2_with fail
          refine HCALL.out.mono ?_
          rintro e w4 ⟨vh, rfl, rh, ah, b4⟩
          obtain ⟨Ah, ch, eh, _⟩ := id rh
          rw [HNH.out] at eh
          subst eh
          obtain ⟨T3, hT3⟩ := HST.out
          have hR4 : ∀ i, R i → i < w4.heap.size := fun i hi => Nat.lt_of_lt_of_le (HR1.out i hi) (Nat.le_trans HG.out.size b4.size)
          have hb4 : base ≤ w4.heap.size := Nat.le_trans HBS1.out (Nat.le_trans HG.out.size b4.size)
          have hA4 : w.grownBy w4 (Value.slice A k c).ownBlock := grown_new (grown_on HGW.out HRW.out HG.out) (below_grown b4 none) (fun i e => by cases e)
          have hI0 : VisI w4 base g R (visK n S q 0) (.slice (some ⟨g, 0, none⟩) (k + 1) cap) (.slice none 0 0) 0 w4 := ⟨⟨T3, (hT3.below b4).less (fun i hi => by
            rcases hi with hi | hi
            · exact .inl hi
            · cases hi)⟩, World.ownsRow_nil _ _ _ _, World.grownBy.refl _ _, RowOn.refl _ _⟩
          have HU4 := Lib.hid (HU3.out.below b4); have HRH := Lib.hid rh; have HAH := Lib.hid ah; have HR4 := Lib.hid hR4; have HB4 := Lib.hid hb4; have HA4 := Lib.hid hA4; have HI0 := Lib.hid hI0
          have hnhq : nh ≤ 2000000 := by have h1 := hdsR_len q; have h2 := HNH.out; have h3 := HNQ.out; omega
          have HM0 : Hid ((visK n S q 0).1.length = k + 1) := Lib.hid (by rw [visK_zero, List.length_append, HN.out]; rfl)
          clear rh ah hR4 hb4 hA4 hI0 hT3 b4 HU3 HST HCALL HX3 HG
          go_wp2
          go_loopw [0, 11, 53] (fun s0 s11 s53 wr => ∃ (m M : Nat) (Aa : Option Addr) (ca : Nat) (Ao : Option Addr) (co : Nat), s0 = .slice Aa M ca ∧ s11 = .slice Ao m co ∧ s53 = .int .i64 (m : Int) ∧ m ≤ nh ∧ Hid ((visK n S q m).1.length = M) ∧ Hid (VisI w4 base g R (visK n S q m) (.slice Aa M ca) (.slice Ao m co) m wr)) (fun _ _ s53 _ => nh - (RowKit.intOf s53).toNat)
          case atStart => exact ⟨0, k + 1, _, cap, none, 0, rfl, rfl, rfl, Nat.zero_le _, HM0, HI0⟩
          case round =>
            obtain ⟨m, M, Aa, ca, Ao, co, rfl, rfl, rfl, hmn, HM, HVI⟩ := hrel
            by_cases hm : m < nh
            · have m1 : (m : Int) < (nh : Int) := by omega
              obtain ⟨r, hr⟩ : ∃ r, (hdsR q)[m]? = some r := ⟨_, List.getElem?_eq_getElem (by rw [HNH.out]; exact hm)⟩
              obtain ⟨bh, oh, eA, c1⟩ : ∃ bh oh, Ah = some ⟨bh, oh, none⟩ ∧ wr.cell? ⟨bh, oh + m, none⟩ = some (.int .i32 r) := by
                obtain ⟨A', c', e', _, _, hx⟩ := HVI.out.heads HRH.out HAH.out
                rw [HNH.out] at e' hx
                cases e'
                obtain ⟨bh, oh, eA, _, hc⟩ := hx (by omega)
                have h9 := hc m hm
                rw [List.getD_eq_getElem?_getD, hr] at h9
                exact ⟨bh, oh, eA, h9⟩
              subst eA
              have hcb := rbehind_any (.slice Au j cu) q r _ wr (HVI.out.rests HU4.out) (by rw [HNQ.out]; exact hql) (HVI.out.ask HR4.out).2
              have HCB := Lib.hid hcb
              obtain ⟨hq1, hq2⟩ := visK_asks n S q hr HQ.out
              have hks := visK_succ n S q hr
              rw [HNH.out] at hq2
              have hbl : (behR q r).length ≤ 2000000 := by have := behR_len q r; have := HNQ.out; omega
              have hvis := fun (w5 : World) (vb : Value) (T : List StV) (hT : StRow w5 base (.slice Aa M ca) (visK n S q m).1 T (RO R (.slice Ao m co))) (rb : RsX w5 vb (behR q r) (XR (.slice Aa M ca) (RO R (.slice Ao m co)))) (hb : base ≤ w5.heap.size) (hRO : ∀ i, RO R (.slice Ao m co) i → i < w5.heap.size) =>
                HIH.out w5 base Aa M ca vb (visK n S q m).1 T (behR q r) (RO R (.slice Ao m co)) HM.out hT rb hb hRO hq1 (Nat.le_trans hq2 HLN.out) hbl
              unfold VisPost at hvis
              unfold stepS at hks
              obtain ⟨Vr, hVr⟩ : ∃ z, visS n (visK n S q m).1 (behR q r) = z := ⟨_, rfl⟩
              simp only [hVr] at hvis hks
              obtain ⟨V1, V2⟩ := Vr
              simp only at hvis hks
              obtain ⟨M6, hM6⟩ : ∃ z, V1.length = z := ⟨_, rfl⟩
              simp only [hM6] at hvis
              have HVS := Lib.hid hvis; have HKS := Lib.hid hks; have HM6 := Lib.hid hM6
              clear hcb hq1 hq2 hbl hvis hks hVr hM6 hr
              go_wp2_with fail
              refine HCB.out.mono ?_
              rintro e w5 ⟨vb, rfl, rb, b5⟩
              obtain ⟨T, hT⟩ := HVI.out.row
              have hcv := HVS.out w5 vb T (hT.below b5) rb (Nat.le_trans HB4.out (Nat.le_trans HVI.out.grown.size b5.size)) (fun i hi => Nat.lt_of_lt_of_le ((HVI.out.ask HR4.out).1 i hi) b5.size)
              have HCV := Lib.hid hcv; have B5 := Lib.hid b5
              clear hcv hT rb b5
              go_wp2_with fail
              refine HCV.out.mono ?_
              rintro e w6 ⟨A6, c6, T6, rfl, h6, hg6, hr6⟩
              have hmid := HVI.out.mid B5.out hg6
              have hs46 : w4.heap.size ≤ w6.heap.size := Nat.le_trans HVI.out.grown.size (Nat.le_trans B5.out.size hg6.size)
              obtain ⟨v7, w7, hrun, hown7, hg7, hr7⟩ := append_one (P := Tryd.prog) (enc := oeCell) oe_ln oe_one info_oe2 rfl (by decide) (by decide) Tryd.underlying35 w6 w4.heap.size _ m _ hmid (r, V2) hs46 (by omega)
              obtain ⟨A7, c7, e7⟩ := z_own_slice hown7
              subst e7
              change (Builtin.append_ _ _ _).run _ (w6.alloc (.cells #[.int .i32 r, .int .i64 (V2 : Int)] 98)) = _ at hrun
              rw [← gCells_snoc] at hown7
              have hst := HVI.out.step B5.out h6 hg6 hr6 ((World.grownBy_alloc _ _ _).trans hg7) (by
                rcases hr7 with h | h
                · exact .inl h
                · exact .inr ⟨_, h, by omega⟩) hown7 hmid
              rw [← HKS.out] at hst
              have HRUN := Lib.hid hrun; have HST := Lib.hid hst
              clear hmid hs46 hrun hown7 hg7 hr7 hst h6 hg6 hr6
              go_wp2_with (at_builtin; refine wpList_append_run (.tmp 65) (.tmp 69) 35 _ _ _ _ HRUN.out rfl rfl rfl rfl ?_)
              exact ⟨⟨m + 1, M6, A6, c6, A7, c7, rfl, rfl, by go_num, by omega, Lib.hid (by rw [HKS.out]; exact HM6.out), HST⟩, by simp [RowKit.intOf]; omega⟩
            · obtain rfl : m = nh := by omega
              have hat := visK_at n S q m
              rw [HN.out] at hat
              obtain ⟨T, hT⟩ := HVI.out.row
              obtain ⟨g', cap', t, e', _, _, ht, hx, d0, d1, d2⟩ := hT.at_ HM.out hat
              cases e'
              have hkM : k < M := by have := (List.getElem?_eq_some_iff.1 hat).1; have := HM.out; omega
              have hsf := hT.thaw (k * 3 + 2)
              obtain ⟨T9, hfin⟩ := HVI.out.end_ HR4.out (visK_out n S q (by rw [HNH.out]; exact Nat.le_refl _)) hat
              have hon := HRW.out.trans HA4.out.size HVI.out.on
              have hgr := grown_on (grown_on HA4.out HRW.out HVI.out.grown) hon (z_grown_set wr g' (k * 3 + 2) (.slice Ao m co))
              have hlen : ((visK n S q m).1.set k (q, decide ([] ∈ q), (visK n S q m).2)).length = M := by rw [List.length_set]; exact HM.out
              have hpost : VisPost (n + 1) w base (.slice A k c) S q R (.returned (.tuple #[.slice (some ⟨g', 0, none⟩) M ca, .int .i64 (k : Int)])) (wr.setCell ⟨g', k * 3 + 2, none⟩ (.slice Ao m co)) := by
                unfold VisPost
                rw [HNEW.out]
                simp only [hlen]
                exact ⟨_, _, T9, rfl, hfin, hgr, hon⟩
              have HPOST := Lib.hid hpost
              have z1 : (k : Int) < (M : Int) := by omega
              have z3 : (0 : Int) ≤ (k : Int) := by omega
              clear hat hT ht hx d0 d1 hfin hon hgr hlen hpost
              go_wp2
              go_ret2
              exact HPOST.out
theorem visit_zero : VisP 0 := fun w base A N c u S T q R _ _ _ _ _ h => absurd h (Nat.not_lt_zero _)
theorem visit_any (n : Nat) : VisP n := by
  induction n with
  | zero => exact visit_zero
  | succ n ih => exact visit_step n ih
end Go.Proofs.YtljaibhhkjapmaaDoor
