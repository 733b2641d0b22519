/- Texts that several proofs of this seat share, one behind the other: ZMet ZRound ZLdM ZLdL ZTurn KEdg. -/
import Derived.Test.YtljaibhhkjapmaaDoorPk11
import Derived.Test.YtljaibhhkjapmaaDoorPk10
import Derived.Test.YtljaibhhkjapmaaDoorPk5
import Derived.Test.YtljaibhhkjapmaaDoorPk6
import Derived.Deep.RegionHeld3
import Derived.Sort.QuietThIn
import Derived.Test.YtljaibhhkjapmaaDoorPk7
import Derived.Test.YtljaibhhkjapmaaDoorPk8
import Derived.Test.YtljaibhhkjapmaaDoorPk2
/- builder.met: the frozen states that are met, in that order, and of each which one it is. -/
namespace Go.Proofs.YtljaibhhkjapmaaDoor
open Go.RowKit Go.Shelf
attribute [local go_sem] Oper.semAt_some
set_option linter.unusedSimpArgs false
set_option linter.unusedVariables false

theorem tlsF_len (F : List Fz) : ∀ k n, (tlsF F k n).length ≤ k := by
  intro k
  induction k with
  | zero => intro n; simp [tlsF]
  | succ k ih =>
    intro n
    rw [tlsF]
    split
    · simp
    · split
      · rename_i f _
        have := ih f.1.1
        simp; omega
      · simp
theorem tls_len (F : List Fz) (n : Nat) : (tls F n).length ≤ n := tlsF_len F n n
theorem nodup_most {O : List Nat} {N : Nat} (h : O.Nodup) (hl : ∀ n ∈ O, n < N) : O.length ≤ N := by
  have := nodup_leK (l := O) (m := List.range N) h (fun x hx => List.mem_range.2 (hl x hx))
  simpa using this
/-- What met answers. -/
def MetPost (w : World) (n1 N x : Nat) (R : List Rst) (e : Ending) (w' : World) : Prop :=
  ∃ (O : List Nat) (vO : Value) (gn : Nat), e = .returned (.tuple #[vO, .slice (some ⟨gn, 0, none⟩) N N]) ∧ O.map (rq R) = staQ (rq R x) ∧ (∀ n ∈ O, n < N) ∧ O.Nodup ∧ w'.ownsRow n1 21 1 vO O.length (gCells nmCell O) ∧
    w'.heap[gn]? = some (.cells (numC N O).toArray 21 (0, 0)) ∧ n1 ≤ gn ∧ vO.ownBlock ≠ some gn ∧ Below n1 w w'

theorem z_app_in {F : Fence} {n : Nat} {P : Program} {w : World} {ops : Array Oper} {rest : List Oper} {o : Oper} {a : Act} {Q : Exit → Act → World → Prop} (s x : Operand) (t : TypeId) (v u v' : Value) (w' : World)
    (hg : o.guard = none) (hop : o.op = Op.call { callee := Callee.builtin Builtin.append, args := #[s, x], argTypes := #[t, t] })
    (hrun : (Builtin.append_ #[t, t] o.type #[v, u]).run P w = .ok v' w') (hs : a.eval s = v) (hx : a.eval x = u)
    (h : wpListIn F n P ops Q rest (a.put o.dst v') w') : wpListIn F n P ops Q (o :: rest) a w := by
  refine wpListIn_plain hg fun K hK => ?_
  unfold Oper.wpIn
  refine ⟨?_, ?_⟩
  · simp [Oper.about, hop, resolve, Target.leads, Sem.run_pure]
  · rw [Oper.semAt_plain F _ _ (by rw [hop]; intro c hc'; cases hc')]
    simp [execOp, hop, resolve, invoke, builtin, hs, hx, hrun, Result.andThen]
    exact hK _ _ h
theorem z_own_cells {W W' : World} {n1 size n : Nat} {T : TypeId} {v : Value} {xs : List Value} (h : W.ownsRow n1 T size v n xs) (hk : ∀ (k : Nat) (o : Obj), W.heap[k]? = some o → o.isCells = true → W'.heap[k]? = some o) : W'.ownsRow n1 T size v n xs := by
  obtain ⟨hl, hv⟩ := h
  refine ⟨hl, ?_⟩
  rcases hv with ⟨rfl, h0⟩ | ⟨g, cap, cur, rfl, hg, hh, r1, r2, r3, r4⟩
  · exact .inl ⟨rfl, h0⟩
  · exact .inr ⟨g, cap, cur, rfl, hg, hk g _ hh rfl, r1, r2, r3, r4⟩
def zvl : Value → Nat
  | .slice _ n _ => n
  | _ => 0
/-- What is left to do: what is not met yet, and what is laid up. -/
def metMu (N Ba : Nat) (v : Value) (w : World) : Nat := (N - zvl v) * (N + 1) + (match w.cell? ⟨Ba, 0, none⟩ with | some v => zvl v | none => 0)
theorem metMu_is {N Ba : Nat} {v u : Value} {w : World} (h : w.cell? ⟨Ba, 0, none⟩ = some u) : metMu N Ba v w = (N - zvl v) * (N + 1) + zvl u := by unfold metMu; rw [h]
theorem MetM.ownFrom {w W W' : World} {n1 gn Ba N B : Nat} {O S : List Nat} {vO vS : Value} {row : Option Nat} (h : MetM w W n1 gn Ba N O S vO vS) (hg : W.grownBy W' row) (hr : ∀ r, row = some r → B ≤ r ∧ ∃ o : Obj, W.heap[r]? = some o ∧ o.isCells = false) (hB : n1 ≤ B) : MetM w W' n1 gn Ba N O S vO vS := by
  have key : ∀ {size n : Nat} {T : TypeId} {v : Value} {xs : List Value}, W.ownsRow n1 T size v n xs → v.ownBlock = none ∨ v.ownBlock ≠ row := fun {size n T v xs} hv => by
    rcases hv.2 with ⟨rfl, _⟩ | ⟨g, cap, cur, rfl, _, hh, _⟩
    · exact .inl rfl
    · right
      intro e
      obtain ⟨_, o, ho, hc⟩ := hr g e.symm
      rw [hh] at ho
      cases ho
      cases hc
  refine h.kept hg (key h.ord) (key h.stk) (fun e => ?_) (fun e => ?_) (fun r e => Nat.le_trans hB (hr r e).1)
  · obtain ⟨_, o, ho, hc⟩ := hr gn e.symm
    rw [h.num] at ho
    cases ho
    cases hc
  · obtain ⟨_, o, ho, hc⟩ := hr Ba e.symm
    have hb := h.box
    unfold Boxed at hb
    rw [hb] at ho
    cases ho
    cases hc

/-- What a push turns: no other block. -/
theorem MetM.pushKeep {w W W5 : World} {n1 gn Ba N Bn Bb : Nat} {O S : List Nat} {vO vS v' : Value} (h : MetM w W n1 gn Ba N O S vO vS) (o : Obj) (hg : (W.alloc o).grownBy W5 vS.ownBlock) (h1 : vS.ownBlock ≠ some Bn) (h2 : vS.ownBlock ≠ some Bb) (h3 : Ba ≠ Bn) (h4 : Ba ≠ Bb) (l1 : Bn < W.heap.size) (l2 : Bb < W.heap.size) :
    KeepT n1 Bn Bb W (W5.setCell ⟨Ba, 0, none⟩ v') ∧ KeepsOthers W (W5.setCell ⟨Ba, 0, none⟩ v') := by
  obtain ⟨p1, p2, p3, p4, p5, p6⟩ := h.ap
  have hal := bel_one W o
  have hs := z_grown_set W5 Ba 0 v'
  have hsz5 : W.heap.size + 1 ≤ W5.heap.size := by have := hg.size; simpa using this
  have hnS : ∀ k, vS.ownBlock = some k → n1 ≤ k := fun k e => by
    rcases h.stk.2 with ⟨rfl, _⟩ | ⟨g, cap, cur, rfl, hb, _⟩
    · cases e
    · have e2 : g = k := by simpa [Value.ownBlock] using e
      omega
  have blk : ∀ k, k < W.heap.size → vS.ownBlock ≠ some k → Ba ≠ k → (W5.setCell ⟨Ba, 0, none⟩ v').heap[k]? = W.heap[k]? := fun k hk e1 e2 =>
    (hs.block k (by omega) (fun e => e2 (by cases e; rfl))).trans ((hg.block k (by simp; omega) (fun e => e1 e.symm)).trans (hal.block k hk))
  refine ⟨⟨(((Below.refl n1 W).trans (hal.mono p6)).grown hg (by simp; omega) (fun k e => hnS k e)).grown hs (by omega) (fun k e => by cases e; exact h.b0), blk Bn l1 h1 h3, blk Bb l2 h2 h4, fun k cs fz hk hh => ?_⟩, ⟨by have := hs.size; omega, fun k ob hh hc => ?_⟩⟩
  · have hkl := (Array.getElem?_eq_some_iff.1 hh).1
    refine (blk k hkl (fun e => ?_) (fun e => ?_)).trans hh
    · rcases h.stk.2 with ⟨rfl, _⟩ | ⟨g, cap, cur, rfl, hb, hgg, _⟩
      · cases e
      · have e2 : g = k := by simpa [Value.ownBlock] using e
        subst e2
        rw [hgg] at hh
        simp only [Option.some.injEq, Obj.cells.injEq] at hh
        exact absurd hh.2.1 (by decide)
    · subst e
      have hb := h.box
      unfold Boxed at hb
      rw [hb] at hh
      simp only [Option.some.injEq, Obj.cells.injEq] at hh
      exact absurd hh.2.1 (by decide)
  · have hkl := (Array.getElem?_eq_some_iff.1 hh).1
    refine (blk k hkl (fun e => ?_) (fun e => ?_)).trans hh
    · rcases h.stk.2 with ⟨rfl, _⟩ | ⟨g, cap, cur, rfl, hb, hgg, _⟩
      · cases e
      · have e2 : g = k := by simpa [Value.ownBlock] using e
        subst e2
        rw [hgg] at hh
        cases hh
        cases hc
    · subst e
      have hb := h.box
      unfold Boxed at hb
      rw [hb] at hh
      cases hh
      cases hc
/-- What lies there while tails are handed on. -/
structure MetL (w W : World) (n1 gn Ba N Bb : Nat) (O S : List Nat) (vO : Value) (Ds : List Nat) : Prop where
  mm : ∃ vS, MetM w W n1 gn Ba N O S vO vS ∧ vS.ownBlock ≠ some (Bb + 1) ∧ vS.ownBlock ≠ some Bb
  mks : ZMarks n1 W Ds
  dl : ∀ D ∈ Ds, D < Bb
  gl : gn < Bb
  bl : Ba < Bb
  ol : ∀ k, vO.ownBlock = some k → k < Bb
  nl : n1 ≤ Bb
  sz : Bb + 2 ≤ W.heap.size
theorem MetL.own {β : Type} (w : World) (n1 gn Ba N Bb B : Nat) (O : List Nat) (S : β → List Nat) (vO : Value) (Ds : List Nat) (hB : Bb ≤ B) : OwnFrom B (fun (b : β) W => MetL w W n1 gn Ba N Bb O (S b) vO Ds) := by
  intro b W W' row h hg hr
  obtain ⟨vS, h1, h2, h3⟩ := h.mm
  refine ⟨⟨vS, h1.ownFrom hg hr (by have := h.nl; omega), h2, h3⟩, ⟨h.mks.nd, fun D hD => ⟨(h.mks.at_ D hD).1, (hg.block D (Array.getElem?_eq_some_iff.1 (h.mks.at_ D hD).2).1 (fun e => ?_)).trans (h.mks.at_ D hD).2⟩⟩, h.dl, h.gl, h.bl, h.ol, h.nl, by have := h.sz; have := hg.size; omega⟩
  have := (hr D e.symm).1
  have := h.dl D hD
  omega
theorem MetL.row {w W W' : World} {n1 gn Ba N Bb : Nat} {O S : List Nat} {vO : Value} {Ds : List Nat} (h : MetL w W n1 gn Ba N Bb O S vO Ds) (hg : W.grownBy W' (some (Bb + 1))) : MetL w W' n1 gn Ba N Bb O S vO Ds := by
  obtain ⟨vS, h1, h2, h3⟩ := h.mm
  refine ⟨⟨vS, h1.kept hg (.inr fun e => ?_) (.inr h2) (fun e => ?_) (fun e => ?_) (fun r e => ?_), h2, h3⟩, ⟨h.mks.nd, fun D hD => ⟨(h.mks.at_ D hD).1, (hg.block D (Array.getElem?_eq_some_iff.1 (h.mks.at_ D hD).2).1 (fun e => ?_)).trans (h.mks.at_ D hD).2⟩⟩, h.dl, h.gl, h.bl, h.ol, h.nl, by have := h.sz; have := hg.size; omega⟩
  · have := h.ol _ e; omega
  · have e2 := Option.some.inj e; have := h.gl; omega
  · have e2 := Option.some.inj e; have := h.bl; omega
  · have e2 := Option.some.inj e; have := h.nl; omega
  · have e2 := Option.some.inj e; have := h.dl D hD; omega

set_option maxRecDepth 100000 in
set_option maxHeartbeats 16000000 in
theorem met_any (q N M x n1 : Nat) (F : List Fz) (R : List Rst) (w : World) (hF : FrzAt w q N F) (hz : FzOk M F R) (hN : N ≤ 5000000) (hx : x < N) (hn1 : w.heap.size = n1) :
    Calls Tryd.prog 100 #[.pointer (some ⟨q, 0, none⟩), .int .i32 (x : Int)] w (MetPost w n1 N x R) := by
  have hF0 := hF
  obtain ⟨hq1, hFN, g, cap, f1, hgl, hcap, hcm, hfz⟩ := hF
  have HF := Lib.hid hF0; have HZ := Lib.hid hz; have HFN := Lib.hid hFN; have HN1 := Lib.hid hn1
  have h2N : 2 ≤ N := by rw [← hFN]; exact hz.two
  -- the literal
  have hal := bel_one w (.cells #[.int .i32 (-1)] 21)
  have a0 := heap_alloc_new w (.cells #[.int .i32 (-1)] 21)
  have f1e := cell_keep hal f1
  obtain ⟨wa, hwa⟩ : ∃ z, w.alloc (.cells #[.int .i32 (-1)] 21) = z := ⟨_, rfl⟩
  rw [hwa] at hal a0
  rw [hn1] at a0
  have cr := repeat_any n1 0 N (-1) wa (by rw [cell_of_row _ _ _ _ _ (0, 0) a0]; rfl) (by omega) (by omega)
  have CR := Lib.hid cr; have HAL := Lib.hid hal; have HWA := Lib.hid hwa
  clear hF0 hz hFN f1 hgl hcap hcm hfz cr a0 hal hwa
  refine (callsIn_wide (n := 6)).1 ?_
  refine callsIn_of_wp_marks Tryd.func100 rfl trivial ?_ rfl
  simp only [Tryd.ntmps100, List.size_toArray, List.length_cons, List.length_nil, Nat.reduceAdd, Nat.reduceSub, Array.replicate_succ, Array.replicate_zero, List.push_toArray, List.append_toArray, List.nil_append, List.cons_append]
  gi_wp2_with (refine ⟨trivial, ?_⟩; gi_at_call 116; rw [HWA.out]; refine (callsIn_wide.2 CR.out).mono ?_; rintro e w1 ⟨rfl, hnum, hb1⟩)
  obtain ⟨gn, hgn⟩ : ∃ z, wa.heap.size = z := ⟨_, rfl⟩
  rw [hgn] at hnum hb1 ⊢
  have hgn1 : n1 < gn := by have := HWA.out; rw [← hgn, ← this]; simp; omega
  have hb01 : Below n1 w w1 := by rw [← hn1]; exact HAL.out.trans (hb1.mono (by have := HAL.out.size; omega))
  have hnlt := (Array.getElem?_eq_some_iff.1 hnum).1
  have hx1 := heap_alloc_new w1 (.cells #[.int .i32 (x : Int)] 21)
  have hal1 := bel_one w1 (.cells #[.int .i32 (x : Int)] 21)
  obtain ⟨g0, hg0⟩ : ∃ z, w1.heap.size = z := ⟨_, rfl⟩
  have hx2 := heap_alloc_new (w1.alloc (.cells #[.int .i32 (x : Int)] 21)) (.cells #[.slice (some ⟨g0, 0, none⟩) 1 1] 84)
  have hal2 := bel_one (w1.alloc (.cells #[.int .i32 (x : Int)] 21)) (.cells #[.slice (some ⟨g0, 0, none⟩) 1 1] 84)
  rw [hg0] at hx1 hnlt
  rw [World.size_alloc, hg0] at hx2
  have HM0 : Hid (MetM w ((w1.alloc (.cells #[.int .i32 (x : Int)] 21)).alloc (.cells #[.slice (some ⟨g0, 0, none⟩) 1 1] 84)) n1 gn (g0 + 1) N [] [x] (.slice none 0 0) (.slice (some ⟨g0, 0, none⟩) 1 1)) := Lib.hid ⟨World.ownsRow_nil _ _ _ _, ⟨rfl, .inr ⟨g0, 1, #[.int .i32 (x : Int)], rfl, by omega, (hal2.block g0 (by simp; omega)).trans hx1, Nat.le_refl _, by simp [maxLen], rfl, rfl⟩⟩, by
      rw [hal2.block gn (by simp; omega), hal1.block gn (by omega), hnum, numC, nums_nil, List.map_replicate], hx2, by simp [Value.ownBlock], by simp [Value.ownBlock]; omega, .inl rfl, .inr (by simp [Value.ownBlock]), hb01.trans ((hal1.mono (by omega)).trans (hal2.mono (by simp; omega))), by omega, by omega⟩
  clear hnum hb1 hb01 hx1 hal1 hx2 hal2 f1e
  gi_wp2
  rw [hg0]
  refine wpIn_loop (fun a' w' => ∃ (O S : List Nat) (vO vS : Value) (Ds : List Nat) (u1 u7 u17 u18 u19 u20 u21 u22 u23 u24 u25 u26 u27 u28 u29 u30 u31 u32 u33 u34 u35 u36 u37 u38 u39 u40 u41 u42 u43 u44 u45 u46 u47 u48 u49 u50 u51 u52 u53 u54 u55 u56 : Value), (Hid (MetM w w' n1 gn (g0 + 1) N O S vO vS) ∧ Hid (MetI F R (rq R x) O S) ∧ Hid (ZMarks n1 w' Ds) ∧ S.length ≤ 1 + O.length * 5000000) ∧ a' = { tmps := #[.pointer (some ⟨q, 0, none⟩), u1, undef, undef, vO, .slice (some ⟨gn, 0, none⟩) N N, .pointer (some ⟨g0 + 1, 0, none⟩), u7, .slice (some ⟨n1, 0, none⟩) 1 1, .pointer (some ⟨q, 0, none⟩), .pointer (some ⟨q, 0, none⟩), .pointer (some ⟨q, 1, none⟩), .slice (some ⟨g, 0, none⟩) N cap, .int .i64 (N : Int), .slice (some ⟨gn, 0, none⟩) N N, .int .i32 (x : Int), .slice (some ⟨g0, 0, none⟩) 1 1, u17, u18, u19, u20, u21, u22, u23, u24, u25, u26, u27, u28, u29, u30, u31, u32, u33, u34, u35, u36, u37, u38, u39, u40, u41, u42, u43, u44, u45, u46, u47, u48, u49, u50, u51, u52, u53, u54, u55, u56], defers := Ds.map zkD })
    (fun a' w' => metMu N (g0 + 1) (a'.tmps.getD 4 undef) w') ?_ ?_
  · exact ⟨[], [x], _, _, [], _, _, _, _, _, _, _, _, _, _, _, _, _, _, _, _, _, _, _, _, _, _, _, _, _, _, _, _, _, _, _, _, _, _, _, _, _, _, _, _, _, _, ⟨HM0, Lib.hid (MetI.start HZ.out (by rw [HFN.out]; exact hx)), Lib.hid ⟨List.nodup_nil, fun D hD => by cases hD⟩, by simp⟩, rfl⟩
  clear HM0 CR HAL HWA
  rintro a' wr ⟨O, S, vO, vS, Ds, u1, u7, u17, u18, u19, u20, u21, u22, u23, u24, u25, u26, u27, u28, u29, u30, u31, u32, u33, u34, u35, u36, u37, u38, u39, u40, u41, u42, u43, u44, u45, u46, u47, u48, u49, u50, u51, u52, u53, u54, u55, u56, ⟨HM, HI, HK, hSl⟩, rfl⟩
  rcases List.eq_nil_or_concat S with hS | ⟨S', n, hS⟩
  · subst hS
    obtain ⟨A, cS, e⟩ := z_own_slice HM.out.stk
    simp only [List.length_nil] at e
    subst e
    have hb := HM.out.box.cell
    have HE := Lib.hid HI.out.done
    gi_wp2
    refine z_leaves_marks Ds wr HM.out.ap.2.2.2.2.2 HK.out (fun w' hb' hk' => ?_)
    refine ⟨_, results_tmp2 rfl _ _ _, ?_⟩
    exact ⟨O, vO, gn, rfl, HE.out, fun m hm => by rw [← HFN.out]; exact HI.out.ol m hm, HI.out.on, z_own_cells HM.out.ord hk', hk' gn _ HM.out.num rfl, HM.out.g0, HM.out.a1, HM.out.bel.trans hb'⟩
  · rw [List.concat_eq_append] at hS
    subst hS
    obtain ⟨L, hL⟩ : ∃ z, S'.length = z := ⟨_, rfl⟩
    have hSn : (S' ++ [n]).length = L + 1 := by rw [List.length_append, hL]; rfl
    have hstk := HM.out.stk
    rw [hSn] at hstk hSl
    obtain ⟨gs, cs, evs, hgs1, hgs2, hgs3, hgs4, _⟩ := z_own_form hstk (by omega)
    subst evs
    have hnN : n < N := by rw [← HFN.out]; exact (HI.out.sl n (by simp)).1
    have hb := HM.out.box.cell
    have hbf := HM.out.box.frozen
    have en := z_own_at nm_ln hstk (j := L) (i := 0) (x := n) (u := .int .i32 (n : Int)) (by rw [← hL]; simp) rfl
    simp only [Nat.mul_one, Nat.add_zero] at en
    obtain ⟨m, hm⟩ : ∃ z, O.length = z := ⟨_, rfl⟩
    have hmN : m ≤ N := by rw [← hm]; exact nodup_most HI.out.on (fun k hk => by rw [← HFN.out]; exact HI.out.ol k hk)
    rw [hm] at hSl
    have hLb : L ≤ 25000000000000 := by
      have : m * 5000000 ≤ 5000000 * 5000000 := Nat.mul_le_mul_right _ (by omega)
      omega
    have hpop := HM.out.pop
    rw [hL] at hpop
    have hwl : IntKind.i64.wrap (L : Int) = (L : Int) := by rw [IntKind.wrap_i64]; omega
    have i1 : (0 : Int) < (L : Int) + 1 := by omega
    have i2 : (L : Int) < (L : Int) + 1 := by omega
    have i3 : (n : Int) < (N : Int) := by omega
    have i4 : (L : Int) ≤ (cs : Int) := by omega
    have HP := Lib.hid hpop
    have HK1 : Hid (ZMarks n1 (wr.setCell ⟨g0 + 1, 0, none⟩ (.slice (some ⟨gs, 0, none⟩) L cs)) Ds) := Lib.hid (HK.out.keeps (KeepsOthers.setCell _ _ _))
    have b1 := hpop.box.cell
    obtain ⟨en1, ef1⟩ := hpop.numAt hnN
    have HL := Lib.hid hL; have HMO := Lib.hid hm
    by_cases hmem : n ∈ O
    · rw [if_pos hmem] at en1
      obtain ⟨ix, hix⟩ : ∃ z, O.idxOf n = z := ⟨_, rfl⟩
      rw [hix] at en1
      have j1 : ((ix : Int) != -1) = true := by simp <;> omega
      have j2 : ¬ (ix : Int) = -1 := by omega
      have HI2 := Lib.hid (HI.out.skip HZ.out hmem)
      clear hpop hstk hmem hix hm hL hSn
      have hmu1 := metMu_is (N := N) (v := vO) b1
      have hmu0 := metMu_is (N := N) (v := vO) hb
      have HMU : Hid (metMu N (g0 + 1) vO (wr.setCell ⟨g0 + 1, 0, none⟩ (.slice (some ⟨gs, 0, none⟩) L cs)) < metMu N (g0 + 1) vO wr) := Lib.hid (by rw [hmu1, hmu0]; simp only [zvl]; omega)
      clear hmu1 hmu0
      gi_wp2
      exact ⟨⟨O, S', vO, _, Ds, _, _, _, _, _, _, _, _, _, _, _, _, _, _, _, _, _, _, _, _, _, _, _, _, _, _, _, _, _, _, _, _, _, _, _, _, _, _, _, _, _, _, ⟨HP, HI2, HK1, by rw [HL.out, HMO.out]; omega⟩, rfl⟩, HMU.out⟩
    · rw [if_neg hmem] at en1
      obtain ⟨AO, co, evo⟩ := z_own_slice HM.out.ord
      rw [hm] at evo
      subst evo
      have hwm : IntKind.i32.wrap (m : Int) = (m : Int) := by rw [IntKind.wrap_i32]; omega
      have hgs2 := z_grown_set (wr.setCell ⟨g0 + 1, 0, none⟩ (.slice (some ⟨gs, 0, none⟩) L cs)) gn n (.int .i32 (m : Int))
      have hord2 := hpop.ord.kept hgs2 (.inr hpop.a1)
      rw [hm] at hord2
      obtain ⟨v', w5, hrun, hown5, hgr5, hblk5⟩ := append_one (P := Tryd.prog) nm_ln nm_one info_n32 rfl (by decide) (by decide) Tryd.underlying84 _ n1 _ m _ hord2 n (by simp; exact HM.out.ap.2.2.2.2.2) (by omega)
      have hsz : ((wr.setCell ⟨g0 + 1, 0, none⟩ (.slice (some ⟨gs, 0, none⟩) L cs)).setCell ⟨gn, n, none⟩ (.int .i32 (m : Int))).heap.size = wr.heap.size := by simp
      have hmeet := hpop.meet (o := .cells (nmCell n).toArray 21) (W5 := w5) (v' := v') hmem (by rw [hm]; exact hgr5) (by rw [List.length_append, hm, gCells_snoc]; exact hown5) (by
        rcases hblk5 with e | e
        · exact .inl e
        · right; rw [e, hsz]; simp)
      have hmi := HI.out.meet HZ.out hmem
      have hk5 : ZMarks n1 w5 Ds := by
        have k1 := HK1.out.keeps (KeepsOthers.setCell _ ⟨gn, n, none⟩ (.int .i32 (m : Int)))
        have k2 := k1.below (bel_one _ (.cells (nmCell n).toArray 21))
        refine k2.grown hgr5 (fun r e => ?_)
        rcases (hord2.alloc (.cells (nmCell n).toArray 21)).2 with ⟨e2, _⟩ | ⟨g9, cap9, cur9, e2, _, hh, _⟩
        · rw [e2] at e; cases e
        · rw [e2] at e
          have e3 : g9 = r := by simpa [Value.ownBlock] using e
          subst e3
          exact ⟨_, hh, rfl⟩
      rw [hsz] at hrun
      obtain ⟨A5, c5, e5⟩ := z_own_slice hown5
      subst e5
      have HRUN := Lib.hid hrun; have HMT := Lib.hid hmeet; have HMI := Lib.hid hmi; have HK5 := Lib.hid hk5
      have HMS := Lib.hid (tls_spec HZ.out n (by rw [HFN.out]; exact hnN)).2
      have HMB := Lib.hid hb
      clear hgs2 hord2 hrun hown5 hgr5 hblk5 hsz hmeet hmi hk5 hpop hstk hmem hm hL hSn HI HK HM
      gi_wp2_with (first
        | (gi_at_builtin; refine z_app_in _ _ _ _ _ _ _ rfl rfl HRUN.out rfl rfl ?_)
        | (refine ⟨trivial, ?_⟩; gi_at_call 101; refine (callsIn_wide.2 (tails_any q n _)).mono ?_; rintro e w' ⟨rfl, rfl⟩))
      have hb2 := bel_two w5 (.cells #[.pointer (some ⟨q, 0, none⟩)] 134) (.cells #[.int .i32 (n : Int)] 21)
      have bx1 : Boxed ((w5.alloc (.cells #[.pointer (some ⟨q, 0, none⟩)] 134)).alloc (.cells #[.int .i32 (n : Int)] 21)) w5.heap.size 134 (.pointer (some ⟨q, 0, none⟩)) := (Boxed.new w5 _ _).alloc _
      have bx2 : Boxed ((w5.alloc (.cells #[.pointer (some ⟨q, 0, none⟩)] 134)).alloc (.cells #[.int .i32 (n : Int)] 21)) (w5.heap.size + 1) 21 (.int .i32 (n : Int)) := by
        have := Boxed.new (w5.alloc (.cells #[.pointer (some ⟨q, 0, none⟩)] 134)) 21 (.int .i32 (n : Int))
        rwa [World.size_alloc] at this
      have hsb : ((w5.alloc (.cells #[.pointer (some ⟨q, 0, none⟩)] 134)).alloc (.cells #[.int .i32 (n : Int)] 21)).heap.size = w5.heap.size + 2 := by simp
      obtain ⟨wb, hwb⟩ : ∃ z, (w5.alloc (.cells #[.pointer (some ⟨q, 0, none⟩)] 134)).alloc (.cells #[.int .i32 (n : Int)] 21) = z := ⟨_, rfl⟩
      obtain ⟨bB, hbB⟩ : ∃ z, w5.heap.size = z := ⟨_, rfl⟩
      have hmb := HMT.out.below hb2
      have hkb := HK5.out.below hb2
      have hap := HMT.out.ap
      have holt := own_lt' HMT.out.ord
      have hslt := own_lt' HMT.out.stk
      rw [hwb] at hb2 bx1 bx2 hsb hmb hkb
      rw [hbB] at bx1 bx2 hsb hap holt hslt
      rw [hwb, hbB]
      have hn1b : n1 ≤ bB := hap.2.2.2.2.2
      have hl0 : MetL w wb n1 gn (g0 + 1) N bB (O ++ [n]) (S' ++ ([] : List Tl).map (·.2.2)) (.slice A5 (m + 1) c5) Ds := ⟨⟨_, by simpa using hmb, fun e => by have := hslt _ e; omega, fun e => by have := hslt _ e; omega⟩, hkb, fun D hD => by rw [← hbB]; exact (Array.getElem?_eq_some_iff.1 (HK5.out.at_ D hD).2).1, hap.2.2.2.1, hap.2.2.2.2.1, holt, hn1b, by omega⟩
      have HBEL := Lib.hid hmb.bel
      have HWM := Lib.hid hwm
      clear hwb hbB hmb hkb hb2 hap holt hslt HRUN HK1 HP b1 en1 ef1 hb hbf en hwm
      refine wp_range_seqBx (by decide) (gf := 117) (lb := #[.pointer (some ⟨bB + 1, 0, none⟩), .pointer (some ⟨bB, 0, none⟩)]) rfl (enters_of Tryd.func117 (by kernel_rfl) rfl)
        (tails_seq 5 (by decide) (bB + 1) bB n1 q N M F R HZ.out hN w HN1.out HF.out n hnN wb (by omega) HBEL.out (by omega) hn1b (by omega) bx2 bx1)
        (fun r e => by cases e; omega) KeepT.trans (keepT_b (by omega) (by omega) (by omega)) (fun W o hW => KeepT.of_below (bel_one W o) (by omega) (by omega) (by omega)) (Below.refl _ _) (fun _ => rfl)
        (fun (pre : List Tl) W => MetL w W n1 gn (g0 + 1) N bB (O ++ [n]) (S' ++ pre.map (·.2.2)) (.slice A5 (m + 1) c5) Ds)
        (MetL.own w n1 gn (g0 + 1) N bB _ _ _ _ _ (by omega)) (fun pre W1 W2 h _ hg => h.row hg) hl0
        (fun t k => { tmps := #[.pointer (some ⟨q, 0, none⟩), .int .i32 (n : Int), undef, undef, .slice A5 (m + 1) c5, .slice (some ⟨gn, 0, none⟩) N N, .pointer (some ⟨g0 + 1, 0, none⟩), .pointer (some ⟨k, 0, none⟩), .slice (some ⟨n1, 0, none⟩) 1 1, .pointer (some ⟨q, 0, none⟩), .pointer (some ⟨q, 0, none⟩), .pointer (some ⟨q, 1, none⟩), .slice (some ⟨g, 0, none⟩) N cap, .int .i64 (N : Int), .slice (some ⟨gn, 0, none⟩) N N, .int .i32 (x : Int), .slice (some ⟨g0, 0, none⟩) 1 1, .slice (some ⟨gs, 0, none⟩) (L + 1) cs, .int .i64 ((L : Int) + 1), .bool true, .slice (some ⟨gs, 0, none⟩) (L + 1) cs, .slice (some ⟨gs, 0, none⟩) (L + 1) cs, .int .i64 ((L : Int) + 1), .int .i64 (L : Int), .pointer (some ⟨gs, L, none⟩), .int .i32 (n : Int), .slice (some ⟨gs, 0, none⟩) (L + 1) cs, .slice (some ⟨gs, 0, none⟩) (L + 1) cs, .int .i64 ((L : Int) + 1), .int .i64 (L : Int), .slice (some ⟨gs, 0, none⟩) L cs, .slice (some ⟨gn, 0, none⟩) N N, .int .i32 (n : Int), .pointer (some ⟨gn, n, none⟩), .int .i32 (-1), .bool false, .slice (some ⟨gn, 0, none⟩) N N, .int .i32 (n : Int), .slice AO m co, .int .i64 (m : Int), .int .i32 (m : Int), .pointer (some ⟨gn, n, none⟩), .slice AO m co, .int .i32 (n : Int), .slice (some ⟨wr.heap.size, 0, none⟩) 1 1, .slice A5 (m + 1) c5, .pointer (some ⟨q, 0, none⟩), .int .i32 (n : Int), .func (.func 117) #[] #[.pointer (some ⟨bB + 1, 0, none⟩), .pointer (some ⟨bB, 0, none⟩)], .agg #[.int .i32 (t.1 : Int), .int .i32 t.2.1, .int .i32 (t.2.2 : Int)], u50, u51, u52, u53, u54, u55, u56], defers := [] })
        (fun t => .cells #[.int .i32 (t.1 : Int), .int .i32 t.2.1, .int .i32 (t.2.2 : Int)] 139) ?assign ?body ?done
      case assign =>
        intro l t W K hK
        simp only [tlEnc]
        gi_wp2
        exact hK
      case body =>
        intro l pre t W k hk hI hkm hpx
        obtain ⟨vS, h1, h2, h3⟩ := hI.mm
        have hpl : pre.length < n + 1 := by
          obtain ⟨z, hz⟩ := hpx
          have e := congrArg List.length hz
          have := tls_len F n
          simp at e
          omega
        obtain ⟨AS, cS, evs⟩ := z_own_slice h1.stk
        subst evs
        obtain ⟨lS, hlS⟩ : ∃ z, (S' ++ pre.map (·.2.2)).length = z := ⟨_, rfl⟩
        have hlSb : lS ≤ 25000010000000 := by rw [← hlS, List.length_append, List.length_map, HL.out]; omega
        have hstk := h1.stk
        rw [hlS] at hstk
        obtain ⟨v9, w9, hrun, hown9, hgr9, hblk9⟩ := append_one (P := Tryd.prog) nm_ln nm_one info_n32 rfl (by decide) (by decide) Tryd.underlying84 W n1 _ lS _ hstk t.2.2 h1.ap.2.2.2.2.2 (by omega)
        rw [hlS] at h1 h2 h3
        have hpush := h1.push (x := t.2.2) _ hgr9 (by rw [List.length_append, hlS, gCells_snoc]; exact hown9) hblk9
        obtain ⟨kp1, kp2⟩ := h1.pushKeep (v' := v9) (Bn := bB + 1) (Bb := bB) _ hgr9 h2 h3 (by have := hI.bl; omega) (by have := hI.bl; omega) (by have := hI.sz; omega) (by have := hI.sz; omega)
        have hap := h1.ap
        have hbx9 : Boxed w9 (g0 + 1) 84 (.slice AS lS cS) := (hgr9.block (g0 + 1) (by simp; omega) (fun e => hap.2.1 e.symm)).trans ((Below.heap_alloc _ _ _ hap.2.2.2.2.1).trans h1.box)
        have b9 := hbx9.cell
        have b9f := hbx9.frozen
        have bW := h1.box.cell
        have ck : W.cell? ⟨k, 2, none⟩ = some (.int .i32 (t.2.2 : Int)) := by rw [cell_of_row _ _ _ _ _ (0, 0) hkm]; rfl
        have hne1 : v9.ownBlock ≠ some (bB + 1) ∧ v9.ownBlock ≠ some bB := by
          rcases hblk9 with e | e
          · rw [e]; exact ⟨h2, h3⟩
          · rw [e]; have := hI.sz; exact ⟨fun e2 => by have := Option.some.inj e2; omega, fun e2 => by have := Option.some.inj e2; omega⟩
        obtain ⟨A9, c9, e9⟩ := z_own_slice hown9
        subst e9
        have HRUN := Lib.hid hrun
        have HFIN : Hid (KeepsFrom wb.heap.size W (w9.setCell ⟨g0 + 1, 0, none⟩ (.slice A9 (lS + 1) c9)) ∧ KeepT n1 (bB + 1) bB W (w9.setCell ⟨g0 + 1, 0, none⟩ (.slice A9 (lS + 1) c9)) ∧ MetL w (w9.setCell ⟨g0 + 1, 0, none⟩ (.slice A9 (lS + 1) c9)) n1 gn (g0 + 1) N bB (O ++ [n]) (S' ++ (pre ++ [t]).map (·.2.2)) (.slice A5 (m + 1) c5) Ds) :=
          Lib.hid ⟨kp2.from _, kp1, ⟨⟨_, by rw [List.map_append, ← List.append_assoc]; exact hpush, hne1⟩, hI.mks.keeps kp2, hI.dl, hI.gl, hI.bl, hI.ol, hI.nl, by have := kp2.size; have := hI.sz; omega⟩⟩
        clear h1 h2 h3 hstk hrun hown9 hgr9 hblk9 hpush kp1 kp2 hap hbx9 hne1 hI hkm hpx hl0 bx1 bx2
        gi_wp2_with (gi_at_builtin; refine z_app_in _ _ _ _ _ _ _ rfl rfl HRUN.out rfl rfl ?_)
        exact HFIN.out
      case done =>
        intro D W hD hI hK
        obtain ⟨vS, h1, h2, h3⟩ := hI.mm
        have hOn : (O ++ [n]).length ≤ N := nodup_most HMI.out.on (fun k hk => by rw [← HFN.out]; exact HMI.out.ol k hk)
        rw [List.length_append, HMO.out] at hOn
        simp only [List.length_cons, List.length_nil] at hOn
        obtain ⟨tl, htl⟩ : ∃ z, (tls F n).length = z := ⟨_, rfl⟩
        have htn := tls_len F n
        rw [htl] at htn
        have hSl2 : (S' ++ (tls F n).map (·.2.2)).length = L + tl := by rw [List.length_append, List.length_map, HL.out, htl]
        obtain ⟨AS, cS, evs⟩ := z_own_slice h1.stk
        rw [hSl2] at evs
        have hmu1 := metMu_is (N := N) (v := .slice A5 (m + 1) c5) h1.box.cell
        have hmu0 := metMu_is (N := N) (v := .slice AO m co) HMB.out
        have HMU : Hid (metMu N (g0 + 1) (.slice A5 (m + 1) c5) W < metMu N (g0 + 1) (.slice AO m co) wr) := Lib.hid (by
          rw [hmu1, hmu0, evs]
          simp only [zvl]
          obtain ⟨r, hr⟩ : ∃ r, N - m = r + 1 := ⟨N - m - 1, by omega⟩
          rw [hr, show N - (m + 1) = r by omega, Nat.succ_mul]
          omega)
        have HM2 := Lib.hid h1
        have HMK : Hid (ZMarks n1 W (D :: Ds)) := Lib.hid ⟨List.nodup_cons.2 ⟨fun hm => by have := hI.dl D hm; omega, hI.mks.nd⟩, fun D' hD' => by
          rcases List.mem_cons.1 hD' with rfl | hD'
          · exact ⟨by have := hI.nl; omega, hK⟩
          · exact hI.mks.at_ D' hD'⟩
        have HLB : Hid ((S' ++ (tls F n).map (·.2.2)).length ≤ 1 + (O ++ [n]).length * 5000000) := Lib.hid (by
          rw [hSl2, List.length_append, HMO.out]
          simp only [List.length_cons, List.length_nil, Nat.zero_add, Nat.succ_mul]
          omega)
        clear h1 h2 h3 hI hK hmu1 hmu0 evs hSl2 hl0 bx1 bx2 hOn
        change Exit.inBlock 2 _ _ _ _
        gi_wp2
        exact ⟨⟨O ++ [n], S' ++ (tls F n).map (·.2.2), _, _, D :: Ds, _, _, _, _, _, _, _, _, _, _, _, _, _, _, _, _, _, _, _, _, _, _, _, _, _, _, _, _, _, _, _, _, _, _, _, _, _, _, _, _, _, _, ⟨HM2, HMI, HMK, HLB.out⟩, rfl⟩, HMU.out⟩
end Go.Proofs.YtljaibhhkjapmaaDoor

/- Regions that draw their order, within a round of a range over a function: as outside of one and of any fence, where nothing is deferred and no call leads out. -/
namespace Go.Proofs.YtljaibhhkjapmaaDoor
open Go.RowKit Go.Shelf
set_option linter.unusedSimpArgs false
set_option linter.unusedVariables false

def zNoDefer (ops : Array Oper) : Bool := ops.all (fun o => match o.op with | .defer _ => false | _ => true)
theorem zNoDefer_spec {ops : Array Oper} (h : zNoDefer ops = true) {i : Nat} {o : Oper} (hi : ops[i]? = some o) : ∀ c, o.op ≠ .defer c := by
  intro c e
  obtain ⟨hlt, hk⟩ := Array.getElem?_eq_some_iff.1 hi
  have := Array.all_eq_true.1 h i hlt
  rw [hk, e] at this
  cases this
theorem z_upon_round {l n : Nat} {P : Program} {o : Oper} {a : Act} {K : Act → World → Prop} {Q : Exit → Act → World → Prop} (r : Result Next) (h : o.upon P a K Q r) : o.uponIn (Fence.wide.inRound l) n P a K Q r := by
  cases r with
  | ok x w' =>
    cases x with
    | enter f args => exact ⟨fun e => (by cases e), CallsIn.inRound l (callsIn_wide.2 h)⟩
    | row r args => exact ⟨fun e => (by cases e), fun c cs _ => let ⟨v, w', r, s⟩ := (show Rows P _ args w' _ from h) c cs; ⟨v, w', r, (stepsIn_wide (P := P)).2 s⟩⟩
    | round _ _ _ _ _ => exact (show False from h).elim
    | _ => exact h
  | halt x w' => cases x <;> exact h
theorem z_any_round {l n : Nat} {P : Program} {md : Region.Mode} {ops : Array Oper} {Q : Exit → Act → World → Prop} (hd : zNoDefer ops = true) (hQ : ¬ LetsOut Q) :
    ∀ (fuel : Nat) (listed : Array Bool) (a : Act) (w : World), wpAny P md ops Q fuel listed a w → wpAnyIn (Fence.wide.inRound l) n P md ops Q fuel listed a w := by
  intro fuel
  induction fuel with
  | zero => intro listed a w h; exact h
  | succ fuel ih =>
    intro listed a w h
    refine ⟨h.1, fun i hi => ?_⟩
    have h1 := wpOp_mono (fun a' w' => ih (listed.setIfInBounds i true) a' w') (h.2 i hi)
    unfold wpOp at h1
    unfold wpOpIn
    split
    · rename_i ho; simp only [ho] at h1; exact h1
    · rename_i o ho
      simp only [ho] at h1
      split
      · rename_i hw
        simp only [hw, if_true] at h1
        have e : ∀ ro, o.semAt ro a.eval = execOp a.eval o := fun ro => Oper.semAt_eq ro _ _ (zNoDefer_spec hd ho)
        refine ⟨fun _ _ => trivial, ?_⟩
        rw [e]
        exact z_upon_round _ (h1.resolve_right fun h => hQ h.2)
      · rename_i hw
        simp only [hw] at h1
        exact ⟨fun _ _ => trivial, h1⟩
theorem z_region_round {l n id : Nat} {P : Program} {ops : Array Oper} {Q : Exit → Act → World → Prop} {S : World → Prop} {a : Act} {w : World} (hm : P.follows .mixedOrders = true) (hd : zNoDefer ops = true) (hQ : ¬ LetsOut Q) (hS : S w.drew)
    (h : S w.drew → wpAnyH P .any ops Q S ops.size (Array.replicate ops.size false) a w.drew) : (Code.region id ops true).wpIn (Fence.wide.inRound l) n P Q a w :=
  wpIn_region_any hm (z_any_round hd hQ _ _ _ _ (wpAny_of_held _ _ _ _ (h hS)))
end Go.Proofs.YtljaibhhkjapmaaDoor

/- The automaton as it is laid: its box, its rows of states and edges; what laying keeps. -/
namespace Go.Proofs.YtljaibhhkjapmaaDoor
open Go.RowKit Go.Shelf
set_option linter.unusedSimpArgs false
set_option linter.unusedVariables false

structure LdM (w W : World) (n1 d : Nat) (sts : List StaL) (eds : List Edg) (vs ve : Value) : Prop where
  box : W.heap[d]? = some (.cells #[vs, ve, .slice none 0 0] 83)
  st : StOwn W n1 vs sts
  ed : EdOwn W n1 ve eds
  bel : Below n1 w W
  d0 : n1 ≤ d
/-- What laying keeps: all below n1; above, all but the automaton's box and its rows. -/
structure LFr (d n1 : Nat) (W W' : World) : Prop where
  bel : Below n1 W W'
  keep : ∀ (k : Nat) (o : Obj), n1 ≤ k → W.heap[k]? = some o → k ≠ d → (∀ cs t fz, o = .cells cs t fz → t ≠ 92 ∧ t ≠ 95) → W'.heap[k]? = some o
theorem LFr.refl (d n1 : Nat) (W : World) : LFr d n1 W W := ⟨Below.refl _ _, fun _ _ _ h _ _ => h⟩
theorem LFr.trans {d n1 : Nat} {A B C : World} (h : LFr d n1 A B) (k : LFr d n1 B C) : LFr d n1 A C := ⟨h.bel.trans k.bel, fun i o h1 h2 h3 h4 => k.keep i o h1 (h.keep i o h1 h2 h3 h4) h3 h4⟩
theorem LFr.of_below {d n1 : Nat} {A B : World} (h : Below A.heap.size A B) (hn : n1 ≤ A.heap.size) : LFr d n1 A B := ⟨h.mono hn, fun i o _ hi _ _ => (h.block i (Array.getElem?_eq_some_iff.1 hi).1).trans hi⟩
theorem LFr.of_grown {d n1 r : Nat} {A B : World} (h : A.grownBy B (some r)) (hn : n1 ≤ A.heap.size) (hr : n1 ≤ r) (ho : r = d ∨ ∃ cs t fz, A.heap[r]? = some (.cells cs t fz) ∧ (t = 92 ∨ t = 95)) : LFr d n1 A B :=
  ⟨(Below.refl n1 A).grown h hn (fun k e => by cases e; exact hr), fun i o h1 hi h3 h5 => (h.block i (Array.getElem?_eq_some_iff.1 hi).1 (fun e => by
    have e := Option.some.inj e
    subst e
    rcases ho with e | ⟨cs, t, fz, e, e2⟩
    · exact h3 e
    · rw [hi] at e
      obtain ⟨k1, k2⟩ := h5 cs t fz (Option.some.inj e)
      rcases e2 with e2 | e2
      · exact k1 e2
      · exact k2 e2)).trans hi⟩
theorem LFr.of_row {d n1 : Nat} {A B : World} {base : Nat} {t : TypeId} {size n : Nat} {v : Value} {xs : List Value} (h : A.grownBy B v.ownBlock) (hn : n1 ≤ A.heap.size) (hv : A.ownsRow n1 t size v n xs) (ht : t = 92 ∨ t = 95) : LFr d n1 A B := by
  rcases hv.2 with ⟨rfl, _⟩ | ⟨g, cap, cur, rfl, hb, hg, _⟩
  · exact LFr.of_below ⟨h.os, h.tape, h.output, h.size, fun k hk => h.block k hk (by simp [Value.ownBlock])⟩ hn
  · exact LFr.of_grown h hn hb (.inr ⟨cur, t, _, hg, ht⟩)
theorem LdM.ap {w W : World} {n1 d : Nat} {sts : List StaL} {eds : List Edg} {vs ve : Value} (h : LdM w W n1 d sts eds vs ve) :
    vs.ownBlock ≠ some d ∧ ve.ownBlock ≠ some d ∧ (vs.ownBlock = none ∨ vs.ownBlock ≠ ve.ownBlock) ∧ (ve.ownBlock = none ∨ ve.ownBlock ≠ vs.ownBlock) ∧ d < W.heap.size ∧ n1 ≤ W.heap.size := by
  have key : ∀ {size n : Nat} {T : TypeId} {v : Value} {xs : List Value}, W.ownsRow n1 T size v n xs → T ≠ 83 → v.ownBlock ≠ some d := fun {size n T v xs} hv hT e => by
    rcases hv.2 with ⟨rfl, _⟩ | ⟨g, cap, cur, rfl, _, hg, _⟩
    · cases e
    · have e2 : g = d := by simpa [Value.ownBlock] using e
      rw [e2, h.box] at hg
      simp only [Option.some.injEq, Obj.cells.injEq] at hg
      exact hT hg.2.1.symm
  have hd := (Array.getElem?_eq_some_iff.1 h.box).1
  exact ⟨key h.st (by decide), key h.ed (by decide), own_apart h.st h.ed (by decide), own_apart h.ed h.st (by decide), hd, by have := h.d0; omega⟩
theorem LdM.cells {w W : World} {n1 d : Nat} {sts : List StaL} {eds : List Edg} {vs ve : Value} (h : LdM w W n1 d sts eds vs ve) : W.cell? ⟨d, 0, none⟩ = some vs ∧ W.cell? ⟨d, 1, none⟩ = some ve ∧ ∀ j, W.frozen? ⟨d, j, none⟩ = false :=
  ⟨by rw [cell_of_row _ _ _ _ _ (0, 0) h.box]; rfl, by rw [cell_of_row _ _ _ _ _ (0, 0) h.box]; rfl, fun j => by simp [World.frozen?, h.box]⟩
theorem LdM.kept {w W W' : World} {n1 d : Nat} {sts : List StaL} {eds : List Edg} {vs ve : Value} {row : Option Nat} (h : LdM w W n1 d sts eds vs ve) (hg : W.grownBy W' row) (h1 : vs.ownBlock = none ∨ vs.ownBlock ≠ row) (h2 : ve.ownBlock = none ∨ ve.ownBlock ≠ row) (h3 : some d ≠ row) (h5 : ∀ r, row = some r → n1 ≤ r) : LdM w W' n1 d sts eds vs ve :=
  ⟨(hg.block d h.ap.2.2.2.2.1 h3).trans h.box, h.st.kept hg h1, h.ed.kept hg h2, h.bel.grown hg h.ap.2.2.2.2.2 h5, h.d0⟩
theorem LdM.below {w W W' : World} {n1 d : Nat} {sts : List StaL} {eds : List Edg} {vs ve : Value} (h : LdM w W n1 d sts eds vs ve) (hb : Below W.heap.size W W') : LdM w W' n1 d sts eds vs ve :=
  h.kept (grown_none hb) (by cases vs.ownBlock <;> simp) (by cases ve.ownBlock <;> simp) (by simp) (fun r e => by cases e)
theorem LdM.ownFrom {w W W' : World} {n1 d B : Nat} {sts : List StaL} {eds : List Edg} {vs ve : Value} {row : Option Nat} (h : LdM w W n1 d sts eds vs ve) (hg : W.grownBy W' row) (hr : ∀ r, row = some r → B ≤ r ∧ ∃ o : Obj, W.heap[r]? = some o ∧ o.isCells = false) (hB : n1 ≤ B) : LdM w W' n1 d sts eds vs ve := by
  have key : ∀ {size n : Nat} {T : TypeId} {v : Value} {xs : List Value}, W.ownsRow n1 T size v n xs → v.ownBlock = none ∨ v.ownBlock ≠ row := fun {size n T v xs} hv => by
    rcases hv.2 with ⟨rfl, _⟩ | ⟨g, cap, cur, rfl, _, hh, _⟩
    · exact .inl rfl
    · right
      intro e
      obtain ⟨_, o, ho, hc⟩ := hr g e.symm
      rw [hh] at ho
      cases ho
      cases hc
  refine h.kept hg (key h.st) (key h.ed) (fun e => ?_) (fun r e => Nat.le_trans hB (hr r e).1)
  obtain ⟨_, o, ho, hc⟩ := hr d e.symm
  rw [h.box] at ho
  cases ho
  cases hc
/-- One edge more. -/
theorem LdM.pushEd {w W W5 : World} {n1 d : Nat} {sts : List StaL} {eds eds2 : List Edg} {vs ve v' : Value} (h : LdM w W n1 d sts eds vs ve) (o : Obj) (hg : (W.alloc o).grownBy W5 ve.ownBlock) (hw : EdOwn W5 n1 v' eds2) :
    LdM w (W5.setCell ⟨d, 1, none⟩ v') n1 d sts eds2 vs v' ∧ LFr d n1 W (W5.setCell ⟨d, 1, none⟩ v') ∧ W5.heap[d]? = some (.cells #[vs, ve, .slice none 0 0] 83) := by
  have h1 := h.below (bel_one W o)
  obtain ⟨a1, a2, a3, a4, a5, a6⟩ := h1.ap
  have hbx : W5.heap[d]? = some (.cells #[vs, ve, .slice none 0 0] 83) := (hg.block d a5 (fun e => a2 e.symm)).trans h1.box
  have hst := h1.st.kept hg a3
  have hv2 : v'.ownBlock ≠ some d := fun e => by
    rcases hw.2 with ⟨rfl, _⟩ | ⟨g, cap, cur, rfl, _, hg, _⟩
    · cases e
    · have e2 : g = d := by simpa [Value.ownBlock] using e
      rw [e2, hbx] at hg
      simp at hg
  have hs := z_grown_set W5 d 1 v'
  have hf : LFr d n1 W (W5.setCell ⟨d, 1, none⟩ v') := ((LFr.of_below (bel_one W o) h.ap.2.2.2.2.2).trans (LFr.of_row (base := n1) hg a6 h1.ed (.inr rfl))).trans (LFr.of_grown hs (by have := hg.size; omega) h.d0 (.inl rfl))
  exact ⟨⟨z_set_cells hbx 1 v', hst.kept hs (.inr a1), hw.kept hs (.inr hv2), h.bel.trans hf.bel, h.d0⟩, hf, hbx⟩
/-- One state more. -/
theorem LdM.pushSt {w W W5 : World} {n1 d : Nat} {sts sts2 : List StaL} {eds : List Edg} {vs ve v' : Value} (h : LdM w W n1 d sts eds vs ve) (o : Obj) (hg : (W.alloc o).grownBy W5 vs.ownBlock) (hw : StOwn W5 n1 v' sts2) :
    LdM w (W5.setCell ⟨d, 0, none⟩ v') n1 d sts2 eds v' ve ∧ LFr d n1 W (W5.setCell ⟨d, 0, none⟩ v') ∧ W5.heap[d]? = some (.cells #[vs, ve, .slice none 0 0] 83) := by
  have h1 := h.below (bel_one W o)
  obtain ⟨a1, a2, a3, a4, a5, a6⟩ := h1.ap
  have hbx : W5.heap[d]? = some (.cells #[vs, ve, .slice none 0 0] 83) := (hg.block d a5 (fun e => a1 e.symm)).trans h1.box
  have hed := h1.ed.kept hg a4
  have hv2 : v'.ownBlock ≠ some d := fun e => by
    rcases hw.2 with ⟨rfl, _⟩ | ⟨g, cap, cur, rfl, _, hg, _⟩
    · cases e
    · have e2 : g = d := by simpa [Value.ownBlock] using e
      rw [e2, hbx] at hg
      simp at hg
  have hs := z_grown_set W5 d 0 v'
  have hf : LFr d n1 W (W5.setCell ⟨d, 0, none⟩ v') := ((LFr.of_below (bel_one W o) h.ap.2.2.2.2.2).trans (LFr.of_row (base := n1) hg a6 h1.st (.inl rfl))).trans (LFr.of_grown hs (by have := hg.size; omega) h.d0 (.inl rfl))
  exact ⟨⟨z_set_cells hbx 0 v', hw.kept hs (.inr hv2), hed.kept hs (.inr a2), h.bel.trans hf.bel, h.d0⟩, hf, hbx⟩
/-- The edges' row is turned. -/
theorem LdM.turn {w W W5 : World} {n1 d g n cap : Nat} {sts : List StaL} {eds eds2 : List Edg} {vs : Value} (h : LdM w W n1 d sts eds vs (.slice (some ⟨g, 0, none⟩) n cap)) (hg : W.grownBy W5 (some g)) (hw : EdOwn W5 n1 (.slice (some ⟨g, 0, none⟩) n cap) eds2) :
    LdM w W5 n1 d sts eds2 vs (.slice (some ⟨g, 0, none⟩) n cap) ∧ LFr d n1 W W5 := by
  obtain ⟨a1, a2, a3, a4, a5, a6⟩ := h.ap
  have hf : LFr d n1 W W5 := LFr.of_row (base := n1) (v := .slice (some ⟨g, 0, none⟩) n cap) hg a6 h.ed (.inr rfl)
  exact ⟨⟨(hg.block d a5 (fun e => a2 (by rw [e]; rfl))).trans h.box, h.st.kept hg a3, hw, h.bel.trans hf.bel, h.d0⟩, hf⟩
/-- What stays as it is while the automaton is laid. -/
structure LdC (W : World) (n1 q gn N b2 b6 b7 d : Nat) (O : List Nat) (vO : Value) : Prop where
  x2 : Boxed W b2 134 (.pointer (some ⟨q, 0, none⟩))
  x6 : Boxed W b6 84 (.slice (some ⟨gn, 0, none⟩) N N)
  x7 : Boxed W b7 25 (.pointer (some ⟨d, 0, none⟩))
  num : W.heap[gn]? = some (.cells (numC N O).toArray 21 (0, 0))
  ord : W.ownsRow n1 21 1 vO O.length (gCells nmCell O)
  l2 : n1 ≤ b2
  l6 : n1 ≤ b6
  l7 : n1 ≤ b7
  lg : n1 ≤ gn
theorem LFr.box {d n1 B : Nat} {W W' : World} {cs : Array Value} {t : TypeId} {v : Value} (h : LFr d n1 W W') (hd : W.heap[d]? = some (.cells cs 83)) (hb : Boxed W B t v) (hB : n1 ≤ B) (h1 : t ≠ 92) (h2 : t ≠ 95) (h3 : t ≠ 83) : Boxed W' B t v :=
  h.keep B _ hB hb (fun e => by
    subst e
    unfold Boxed at hb
    rw [hd] at hb
    simp only [Option.some.injEq, Obj.cells.injEq] at hb
    exact h3 hb.2.1.symm) (fun cs t' fz e => by
    simp only [Obj.cells.injEq] at e
    obtain ⟨_, e, _⟩ := e
    rw [← e]
    exact ⟨h1, h2⟩)
theorem LFr.own {d n1 : Nat} {W W' : World} {cs : Array Value} {T : TypeId} {size n : Nat} {v : Value} {xs : List Value} (h : LFr d n1 W W') (hd : W.heap[d]? = some (.cells cs 83)) (hv : W.ownsRow n1 T size v n xs) (h1 : T ≠ 92) (h2 : T ≠ 95) (h3 : T ≠ 83) : W'.ownsRow n1 T size v n xs := by
  obtain ⟨hl, hv⟩ := hv
  rcases hv with ⟨rfl, h0⟩ | ⟨g, cap, cur, rfl, hg, hh, r1, r2, r3, r4⟩
  · exact ⟨hl, .inl ⟨rfl, h0⟩⟩
  · refine ⟨hl, .inr ⟨g, cap, cur, rfl, hg, h.keep g _ hg hh (fun e => ?_) (fun cs t fz e => ?_), r1, r2, r3, r4⟩⟩
    · subst e
      rw [hd] at hh
      simp only [Option.some.injEq, Obj.cells.injEq] at hh
      exact h3 hh.2.1.symm
    · simp only [Obj.cells.injEq] at e
      obtain ⟨_, e, _⟩ := e
      rw [← e]
      exact ⟨h1, h2⟩
theorem LdC.fr {W W' : World} {n1 q gn N b2 b6 b7 d : Nat} {O : List Nat} {vO : Value} {cs : Array Value} (h : LdC W n1 q gn N b2 b6 b7 d O vO) (hf : LFr d n1 W W') (hd : W.heap[d]? = some (.cells cs 83)) : LdC W' n1 q gn N b2 b6 b7 d O vO :=
  ⟨hf.box hd h.x2 h.l2 (by decide) (by decide) (by decide), hf.box hd h.x6 h.l6 (by decide) (by decide) (by decide), hf.box hd h.x7 h.l7 (by decide) (by decide) (by decide), hf.keep gn _ h.lg h.num (fun e => by
    subst e
    have := h.num
    rw [hd] at this
    simp only [Option.some.injEq, Obj.cells.injEq] at this
    exact absurd this.2.1 (by decide)) (fun cs t' fz e => by
    simp only [Obj.cells.injEq] at e
    obtain ⟨_, e, _⟩ := e
    rw [← e]
    exact ⟨by decide, by decide⟩), hf.own hd h.ord (by decide) (by decide) (by decide), h.l2, h.l6, h.l7, h.lg⟩
theorem LdC.below {W W' : World} {n1 q gn N b2 b6 b7 d : Nat} {O : List Nat} {vO : Value} (h : LdC W n1 q gn N b2 b6 b7 d O vO) (hb : Below W.heap.size W W') : LdC W' n1 q gn N b2 b6 b7 d O vO :=
  ⟨(hb.block _ h.x2.lt).trans h.x2, (hb.block _ h.x6.lt).trans h.x6, (hb.block _ h.x7.lt).trans h.x7, (hb.block _ (Array.getElem?_eq_some_iff.1 h.num).1).trans h.num, z_own_below h.ord hb, h.l2, h.l6, h.l7, h.lg⟩
theorem LFr.marks {d n1 : Nat} {W W' : World} {cs : Array Value} {Ds : List Nat} (h : LFr d n1 W W') (hd : W.heap[d]? = some (.cells cs 83)) (hm : ZMarks n1 W Ds) : ZMarks n1 W' Ds :=
  ⟨hm.nd, fun D hD => ⟨(hm.at_ D hD).1, h.keep D _ (hm.at_ D hD).1 (hm.at_ D hD).2 (fun e => by subst e; have := (hm.at_ D hD).2; rw [hd] at this; cases this) (fun cs t fz e => by cases e)⟩⟩
theorem LFr.keepT {d n1 B1 B2 : Nat} {W W' : World} {cs : Array Value} (h : LFr d n1 W W') (hd : W.heap[d]? = some (.cells cs 83)) (b1 : W'.heap[B1]? = W.heap[B1]?) (b2 : W'.heap[B2]? = W.heap[B2]?) : KeepT n1 B1 B2 W W' :=
  ⟨h.bel, b1, b2, fun k cs' fz hk hh => h.keep k _ hk hh (fun e => by
    subst e
    rw [hd] at hh
    simp only [Option.some.injEq, Obj.cells.injEq] at hh
    exact absurd hh.2.1 (by decide)) (fun cs t' fz e => by
    simp only [Obj.cells.injEq] at e
    obtain ⟨_, e, _⟩ := e
    rw [← e]
    exact ⟨by decide, by decide⟩)⟩
end Go.Proofs.YtljaibhhkjapmaaDoor

/- What lies there while a state's edges are laid. -/
namespace Go.Proofs.YtljaibhhkjapmaaDoor
open Go.RowKit Go.Shelf
set_option linter.unusedSimpArgs false
set_option linter.unusedVariables false

theorem LdC.kept {W W' : World} {n1 q gn N b2 b6 b7 d : Nat} {O : List Nat} {vO : Value} {row : Option Nat} (h : LdC W n1 q gn N b2 b6 b7 d O vO) (hg : W.grownBy W' row) (h2 : some b2 ≠ row) (h6 : some b6 ≠ row) (h7 : some b7 ≠ row) (hn : some gn ≠ row) (ho : vO.ownBlock = none ∨ vO.ownBlock ≠ row) : LdC W' n1 q gn N b2 b6 b7 d O vO :=
  ⟨(hg.block _ h.x2.lt h2).trans h.x2, (hg.block _ h.x6.lt h6).trans h.x6, (hg.block _ h.x7.lt h7).trans h.x7, (hg.block _ (Array.getElem?_eq_some_iff.1 h.num).1 hn).trans h.num, h.ord.kept hg ho, h.l2, h.l6, h.l7, h.lg⟩
structure LdL (w W : World) (n1 q gn N b2 b6 b7 d Bb : Nat) (O : List Nat) (vO : Value) (sts : List StaL) (eds : List Edg) (Ds : List Nat) : Prop where
  mm : ∃ vs ve, LdM w W n1 d sts eds vs ve ∧ (vs.ownBlock ≠ some (Bb + 1) ∧ vs.ownBlock ≠ some Bb) ∧ (ve.ownBlock ≠ some (Bb + 1) ∧ ve.ownBlock ≠ some Bb)
  cc : LdC W n1 q gn N b2 b6 b7 d O vO
  mks : ZMarks n1 W Ds
  dl : ∀ D ∈ Ds, D < Bb
  gl : gn < Bb
  l2 : b2 < Bb
  l6 : b6 < Bb
  l7 : b7 < Bb
  ld : d < Bb
  ol : ∀ k, vO.ownBlock = some k → k < Bb
  nl : n1 ≤ Bb
  sz : Bb + 2 ≤ W.heap.size
theorem LdL.row {w W W' : World} {n1 q gn N b2 b6 b7 d Bb : Nat} {O : List Nat} {vO : Value} {sts : List StaL} {eds : List Edg} {Ds : List Nat} (h : LdL w W n1 q gn N b2 b6 b7 d Bb O vO sts eds Ds) (hg : W.grownBy W' (some (Bb + 1))) : LdL w W' n1 q gn N b2 b6 b7 d Bb O vO sts eds Ds := by
  obtain ⟨vs, ve, h1, h2, h3⟩ := h.mm
  refine ⟨⟨vs, ve, h1.kept hg (.inr h2.1) (.inr h3.1) (fun e => ?_) (fun r e => ?_), h2, h3⟩, h.cc.kept hg (fun e => ?_) (fun e => ?_) (fun e => ?_) (fun e => ?_) (.inr fun e => ?_), ⟨h.mks.nd, fun D hD => ⟨(h.mks.at_ D hD).1, (hg.block D (Array.getElem?_eq_some_iff.1 (h.mks.at_ D hD).2).1 (fun e => ?_)).trans (h.mks.at_ D hD).2⟩⟩, h.dl, h.gl, h.l2, h.l6, h.l7, h.ld, h.ol, h.nl, by have := h.sz; have := hg.size; omega⟩
  · have e2 := Option.some.inj e; have := h.ld; omega
  · have e2 := Option.some.inj e; have := h.nl; omega
  · have e2 := Option.some.inj e; have := h.l2; omega
  · have e2 := Option.some.inj e; have := h.l6; omega
  · have e2 := Option.some.inj e; have := h.l7; omega
  · have e2 := Option.some.inj e; have := h.gl; omega
  · have := h.ol _ e; omega
  · have e2 := Option.some.inj e; have := h.dl D hD; omega
theorem LdL.own {β : Type} (w : World) (n1 q gn N b2 b6 b7 d Bb B : Nat) (O : List Nat) (vO : Value) (sts : List StaL) (eds : β → List Edg) (Ds : List Nat) (hB : Bb ≤ B) : OwnFrom B (fun (b : β) W => LdL w W n1 q gn N b2 b6 b7 d Bb O vO sts (eds b) Ds) := by
  intro b W W' row h hg hr
  obtain ⟨vs, ve, h1, h2, h3⟩ := h.mm
  have lo : ∀ k, k < Bb → some k ≠ row := fun k hk e => by have := (hr k e.symm).1; omega
  refine ⟨⟨vs, ve, h1.ownFrom hg hr (by have := h.nl; omega), h2, h3⟩, h.cc.kept hg (lo _ h.l2) (lo _ h.l6) (lo _ h.l7) (lo _ h.gl) ?_, ⟨h.mks.nd, fun D hD => ⟨(h.mks.at_ D hD).1, (hg.block D (Array.getElem?_eq_some_iff.1 (h.mks.at_ D hD).2).1 (lo D (h.dl D hD))).trans (h.mks.at_ D hD).2⟩⟩, h.dl, h.gl, h.l2, h.l6, h.l7, h.ld, h.ol, h.nl, by have := h.sz; have := hg.size; omega⟩
  cases e : vO.ownBlock with
  | none => exact .inl rfl
  | some k => exact .inr (lo k (h.ol k e))
/-- An edge is laid: what a round keeps. -/
theorem LdL.step {w W W' : World} {n1 q gn N b2 b6 b7 d Bb : Nat} {O : List Nat} {vO vs v' : Value} {sts : List StaL} {eds eds2 : List Edg} {Ds : List Nat} {cs : Array Value} (h : LdL w W n1 q gn N b2 b6 b7 d Bb O vO sts eds Ds) (hd : W.heap[d]? = some (.cells cs 83)) (hm : LdM w W' n1 d sts eds2 vs v') (hf : LFr d n1 W W') (hvs : vs.ownBlock ≠ some (Bb + 1) ∧ vs.ownBlock ≠ some Bb) (hv : v'.ownBlock ≠ some (Bb + 1) ∧ v'.ownBlock ≠ some Bb) : LdL w W' n1 q gn N b2 b6 b7 d Bb O vO sts eds2 Ds :=
  ⟨⟨vs, v', hm, hvs, hv⟩, h.cc.fr hf hd, hf.marks hd h.mks, h.dl, h.gl, h.l2, h.l6, h.l7, h.ld, h.ol, h.nl, by have := h.sz; have := hf.bel.size; omega⟩
end Go.Proofs.YtljaibhhkjapmaaDoor

/- The edges' row is turned, whatever its form. -/
namespace Go.Proofs.YtljaibhhkjapmaaDoor
open Go.RowKit Go.Shelf
set_option linter.unusedSimpArgs false
set_option linter.unusedVariables false

theorem LdM.turn_any {w W W5 : World} {n1 d : Nat} {sts : List StaL} {eds eds2 : List Edg} {vs ve : Value} (h : LdM w W n1 d sts eds vs ve) (hg : W.grownBy W5 ve.ownBlock) (hw : EdOwn W5 n1 ve eds2) :
    LdM w W5 n1 d sts eds2 vs ve ∧ LFr d n1 W W5 := by
  obtain ⟨a1, a2, a3, a4, a5, a6⟩ := h.ap
  have hf : LFr d n1 W W5 := LFr.of_row (base := n1) hg a6 h.ed (.inr rfl)
  exact ⟨⟨(hg.block d a5 (fun e => a2 e.symm)).trans h.box, h.st.kept hg a3, hw, h.bel.trans hf.bel, h.d0⟩, hf⟩
end Go.Proofs.YtljaibhhkjapmaaDoor

/- Layer 10, plain: there are no more edges than letters of words. -/
namespace Go.Proofs.YtljaibhhkjapmaaDoor
set_option linter.unusedVariables false
set_option linter.unusedSimpArgs false

open Classical in
/-- Some runes that lead to a state. -/
noncomputable def toS (w x : Rst) : List Int := if h : x ∈ staQ w then (staQ_from h).choose else []
theorem toS_is {w x : Rst} (h : x ∈ staQ w) : x = behP w (toS w x) := by
  unfold toS
  rw [dif_pos h]
  exact (staQ_from h).choose_spec.2
theorem nodup_map_snoc {p : List Int} : ∀ {l : List Int}, l.Pairwise (· < ·) → (l.map (fun r => p ++ [r])).Nodup := by
  intro l
  induction l with
  | nil => intro _; exact List.nodup_nil
  | cons a l ih =>
    intro h
    rw [List.pairwise_cons] at h
    rw [List.map_cons, List.nodup_cons]
    refine ⟨fun hm => ?_, ih h.2⟩
    obtain ⟨b, hb, e⟩ := List.mem_map.1 hm
    have e2 := List.append_cancel_left e
    have e3 : b = a := by simpa using e2
    have := h.1 b hb
    omega
theorem edges_nodup {w : Rst} (hw : w.Pairwise (· < ·)) : ∀ (Q : List Rst), Q.Nodup → (∀ x ∈ Q, x ∈ staQ w) → (Q.flatMap (fun x => (hdsR x).map (fun r => toS w x ++ [r]))).Nodup := by
  intro Q
  induction Q with
  | nil => intro _ _; exact List.nodup_nil
  | cons x Q ih =>
    intro hn hq
    rw [List.nodup_cons] at hn
    rw [List.flatMap_cons, List.nodup_append]
    refine ⟨nodup_map_snoc (hdsR_rising (staQ_rising hw (hq x (by simp)))), ih hn.2 (fun y hy => hq y (by simp [hy])), fun a ha b hb e => ?_⟩
    obtain ⟨r, _, rfl⟩ := List.mem_map.1 ha
    obtain ⟨y, hy, hb⟩ := List.mem_flatMap.1 hb
    obtain ⟨r', _, rfl⟩ := List.mem_map.1 hb
    have e1 := (List.append_inj' e rfl).1
    have : x = y := by rw [toS_is (hq x (by simp)), toS_is (hq y (by simp [hy])), e1]
    exact hn.1 (this ▸ hy)
theorem edK_all {w : Rst} (hw : w.Pairwise (· < ·)) (k : Nat) : (edK (staQ w) k).length ≤ 1 + ltrs w := by
  have h1 := edges_nodup hw ((staQ w).take k) ((staQ_nodup w).sublist (List.take_sublist _ _)) (fun x hx => List.mem_of_mem_take hx)
  have h2 := nodup_leK (m := begsK w) h1 (fun a ha => by
    obtain ⟨x, hx, ha⟩ := List.mem_flatMap.1 ha
    obtain ⟨r, hr, rfl⟩ := List.mem_map.1 ha
    have hxs : x ∈ staQ w := List.mem_of_mem_take hx
    refine mem_begsK (.inr ?_)
    obtain ⟨t, ht⟩ := mem_hdsR.1 hr
    rw [toS_is hxs] at ht
    refine ⟨t, ?_⟩
    have := mem_behP.1 ht
    simpa using this)
  rw [begsK_len] at h2
  have e : ((((staQ w).take k).flatMap (fun x => (hdsR x).map (fun r => toS w x ++ [r]))).length) = (edK (staQ w) k).length := by
    unfold edK
    rw [List.length_flatMap, List.length_flatMap]
    congr 1
    refine List.map_congr_left (fun x _ => ?_)
    rw [List.length_map, edE_len]
  omega
end Go.Proofs.YtljaibhhkjapmaaDoor

