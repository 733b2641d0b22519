/- rule.renewed: the same rules, in memory of the call's own. -/
import Derived.Test.YtbbkkoeipkigdaaDoorPk14
import Derived.Test.YtbbkkoeipkigdaaDoorDRen
import Derived.Test.YtbbkkoeipkigdaaDoorPk8
import Derived.Test.YtbbkkoeipkigdaaDoorPk13
namespace Go.Proofs.YtbbkkoeipkigdaaDoor
open Go.RowKit Go.Shelf
set_option linter.unusedSimpArgs false
set_option linter.unusedVariables false

theorem make_rules (w : World) (c : Nat) (hc : c ≤ 2000000) : ∃ w', (Instr.makeSlice 22 (.int .i64 0) (.int .i64 (c : Int))).run Tryd.prog w = .ok (.slice (some ⟨w.heap.size, 0, none⟩) 0 c) w' ∧
    w'.ownsRow w.heap.size 55 3 (.slice (some ⟨w.heap.size, 0, none⟩) 0 c) 0 [] ∧ w.grownBy w' none := by
  obtain ⟨i0, hi, hz0, hz1, hz2⟩ := info_parts info_rule
  exact run_make_own w w.heap.size 22 55 i0 _ 3 Tryd.underlying22 hi hz0 hz1 .i64 .i64 c (by rw [hz2]; omega) (by unfold maxLen; omega) (Nat.le_refl _)

/-- A call of a Go function, as one step of a region that draws its order. -/
theorem step_call_one {P : Program} {ops : Array Oper} {o : Oper} {a : Act} {w : World} {K : Act → World → Prop} {Q : Exit → Act → World → Prop} {E : Prop} (hgd : o.guard = none) (f : Nat) (x : Operand) (t : TypeId) (hop : o.op = .call { callee := .value (.func f), args := #[x], argTypes := #[t] })
    (eg : ∀ args w, (callFunc f args).run P w = .ok (.enter f args) w) {u : Value} (hx : a.eval x = u) {Post : Ending → World → Prop} (hc : Calls P f #[u] w Post) (h : ∀ e w', Post e w' → ∃ v, e = .returned v ∧ K (a.put o.dst v) w') :
    if Region.wanted o (yielded ops a.tmps) = true then Oper.wp P o a w K Q else E := by
  have hw : Region.wanted o (yielded ops a.tmps) = true := by simp [Region.wanted, hgd]
  rw [if_pos hw]
  unfold Oper.wp
  have he : (execOp a.eval o).run P w = .ok (.enter f #[u]) w := by
    have hf : a.eval (.func f) = .func (.func f) #[] #[] := rfl
    simp [execOp, hop, resolve, invoke, Deferred.ofValue, hf, hx, eg, Result.andThen]
  rw [he, Oper.upon_enter]
  refine hc.mono ?_
  intro e w' hp
  obtain ⟨v, rfl, hk⟩ := h e w' hp
  exact hk
/-- An append of rules onto an owned row, as one step of such a region. -/
theorem step_append_rules {ops : Array Oper} {o : Oper} {a : Act} {w : World} {K : Act → World → Prop} {Q : Exit → Act → World → Prop} {E : Prop} (hgd : o.guard = none) (s x : Operand) (base n : Nat) (xs : List Value) (ys : List Blk) {v u : Value}
    (hown : w.ownsRow base 55 3 v n xs) (hu : GRuns blkCell 3 w u ys) (ho : o.op = .call { callee := .builtin .append, args := #[s, x], argTypes := #[22, 22] }) (hty : o.type = 22) (hs : a.eval s = v) (hx : a.eval x = u)
    (hbase : base ≤ w.heap.size) (hlen : (n + ys.length) * 40 ≤ 140737488355328)
    (h : ∀ v' w', w'.ownsRow base 55 3 v' (n + ys.length) (xs ++ gCells blkCell ys) → w.grownBy w' v.ownBlock → (v'.ownBlock = v.ownBlock ∨ v'.ownBlock = some w.heap.size) → K (a.put o.dst v') w') : if Region.wanted o (yielded ops a.tmps) = true then Oper.wp Tryd.prog o a w K Q else E := by
  obtain ⟨v', w', hrun, h2, h3, h4⟩ := append_many (P := Tryd.prog) rl_ln rl_one info_rule rfl (by decide) (by decide) Tryd.underlying22 w base v n xs hown u ys hu hbase hlen
  exact step_append_run' hgd s x _ v u v' w' ho (by rw [hty]; exact hrun) hs hx (h v' w' h2 h3 h4)
/-- A rule in its box, and all that is old. -/
structure BoxK (D : World) (c : Nat) (x : Blk) (W : World) : Prop where
  b0 : W.cell? ⟨c, 0, none⟩ = some (.string x.1)
  b1 : W.cell? ⟨c, 1, none⟩ = some (.string x.2.1)
  b2 : W.cell? ⟨c, 2, none⟩ = some (.int .i64 x.2.2)
  lt : c < W.heap.size
  bel : Below D.heap.size D W
theorem BoxK.step {D : World} {c : Nat} {x : Blk} {W W' : World} (h : BoxK D c x W) (hb : Below W.heap.size W W') : BoxK D c x W' :=
  ⟨(hb.cell (p := ⟨c, _, none⟩) h.lt).trans h.b0, (hb.cell (p := ⟨c, _, none⟩) h.lt).trans h.b1, (hb.cell (p := ⟨c, _, none⟩) h.lt).trans h.b2, Nat.lt_of_lt_of_le h.lt hb.size, h.bel.trans (hb.mono h.bel.size)⟩
theorem rule_litR (w : World) (x : Blk) : GRuns blkCell 3 (w.alloc (.cells #[.string x.1, .string x.2.1, .int .i64 x.2.2] 55)) (.slice (some ⟨w.heap.size, 0, none⟩) 1 1) [x] := by
  have e0 := heap_alloc_new w (.cells #[.string x.1, .string x.2.1, .int .i64 x.2.2] 55)
  refine ⟨_, 1, rfl, Nat.le_refl _, ⟨by simp [maxLen], fun h => by cases h⟩, fun _ => ⟨w.heap.size, 0, rfl, by simp, fun j z hj i u hu => ?_⟩⟩
  obtain rfl : j = 0 := by have := (List.getElem?_eq_some_iff.1 hj).1; simpa using this
  obtain rfl : x = z := by simpa using hj
  rw [cell_of_row _ _ _ _ _ (0, 0) e0]
  simpa [blkCell] using hu

set_option maxRecDepth 100000 in
set_option maxHeartbeats 8000000 in
theorem renewed_any (u : Value) (l : List Blk) (w : World) (hu : BRuns w u l) (hl : l.length ≤ 2000000) (hz : szL l) :
    Calls Tryd.prog 49 #[u] w fun e w' => ∃ v, e = .returned v ∧ w'.ownsRow w.heap.size 55 3 v l.length (gCells blkCell l) ∧ Below w.heap.size w w' := by
  obtain ⟨A, c, e⟩ := hu.slice
  subst e
  obtain ⟨n, hn⟩ : ∃ n, l.length = n := ⟨_, rfl⟩
  have hfin : gCells blkCell l = gCells blkCell (l.take l.length) := by rw [List.take_length]
  rw [hfin, hn]
  rw [hn] at hu hl
  obtain ⟨w1, hr1, ho1, hg1⟩ := make_rules w n hl
  have hb1 : Below w.heap.size w w1 := (Below.refl w.heap.size w).grown hg1 (Nat.le_refl _) (fun k hk => by cases hk)
  have HU := Lib.hid hu; have HN := Lib.hid hn; have HZ := Lib.hid hz; have HO1 := Lib.hid ho1; have HB1 := Lib.hid hb1
  have CL := Lib.hid clone_any
  clear hu hn hz ho1 hb1 hg1 hfin
  go_enter Tryd.func49, Tryd.ntmps49
  have eg : ∀ args w, (callFunc 67 args).run Tryd.prog w = .ok (.enter 67 args) w := enters_of Tryd.func67 (by kernel_rfl) rfl
  have hmix : Tryd.prog.follows .mixedOrders = true := by kernel_rfl
  have HEG := Lib.hid eg; clear eg
  go_wp2
  go_loopw [3, 11] (fun s3 s11 wr => ∃ k : Nat, k ≤ n ∧ s11 = .int .i64 k ∧ Hid (wr.ownsRow w.heap.size 55 3 s3 k (gCells blkCell (l.take k))) ∧ Hid (Below w.heap.size w wr)) (fun _ s11 _ => n - (RowKit.intOf s11).toNat)
  case atStart => exact ⟨0, Nat.zero_le _, rfl, HO1, HB1⟩
  case round =>
    obtain ⟨k, hkn, rfl, HO, BW⟩ := hrel
    by_cases hk : k < n
    · have k1 : (k : Int) < (n : Int) := by omega
      obtain ⟨⟨p1, p2, p3⟩, hp⟩ : ∃ p, l[k]? = some p := ⟨_, List.getElem?_eq_getElem (by rw [HN.out]; exact hk)⟩
      obtain ⟨b, o, rfl, _, hc⟩ := (HU.out.below BW.out).cells HN.out (by omega)
      obtain ⟨g0, g1, g2⟩ := blk_cells hc hp
      simp only at g0 g1 g2
      have hz1 := HZ.out _ (List.mem_of_getElem? hp)
      simp only at hz1
      have HNEXT : Hid (l.take (k + 1) = l.take k ++ [(p1, p2, p3)]) := Lib.hid (by rw [List.take_add_one, hp]; rfl)
      obtain ⟨t, ht⟩ : ∃ t, l.take k = t := ⟨_, rfl⟩
      rw [ht] at HO HNEXT
      have hte : t.length = k := by rw [← ht, List.length_take, HN.out]; omega
      have GR := GRuns.of_own rl_ln hte HO.out
      obtain ⟨A3, c3, e3⟩ := GR.slice
      rw [hte] at e3
      subst e3
      clear GR
      have hal := blw_one wr (.cells #[.string p1, .string p2, .int .i64 p3] 55)
      obtain ⟨e0, e1, e2⟩ := cells3_new wr (.string p1) (.string p2) (.int .i64 p3) 55
      have hltb : wr.heap.size < (wr.alloc (.cells #[.string p1, .string p2, .int .i64 p3] 55)).heap.size := by simp
      obtain ⟨wa, hwa⟩ : ∃ z, wr.alloc (.cells #[.string p1, .string p2, .int .i64 p3] 55) = z := ⟨_, rfl⟩
      rw [hwa] at hal e0 e1 e2 hltb
      obtain ⟨bx, hbx⟩ : ∃ z, wr.heap.size = z := ⟨_, rfl⟩
      rw [hbx] at e0 e1 e2 hltb
      have BA : Hid (Below w.heap.size w wa.drew) := Lib.hid (BW.out.trans (hal.mono BW.out.size)).drew
      have OA : Hid (wa.drew.ownsRow w.heap.size 55 3 (.slice A3 k c3) k (gCells blkCell t)) := Lib.hid (own_below HO.out hal.drew)
      have KA : Hid (BoxK wa.drew bx (p1, p2, p3) wa.drew) := Lib.hid ⟨e0, e1, e2, hltb, Below.refl _ _⟩
      have C1 := Lib.hid (fun w => CL.out p1 w hz1.1); have C2 := Lib.hid (fun w => CL.out p2 w hz1.2)
      have HWA := Lib.hid hwa; have HBX := Lib.hid hbx
      have SD : w.heap.size ≤ wa.drew.heap.size := BA.out.size
      clear hc hp hal hwa hbx ht hz1 HO hte
      have eg := HEG.out
      go_wp2
      rw [HWA.out, HBX.out]
      clear g0 g1 g2
      have d0 : wa.drew.cell? ⟨bx, 0, none⟩ = some (.string p1) := e0
      have d1 : wa.drew.cell? ⟨bx, 1, none⟩ = some (.string p2) := e1
      have d2 : wa.drew.cell? ⟨bx, 2, none⟩ = some (.int .i64 p3) := e2
      go_region_law (first
        | (refine step_call_one rfl 67 (.tmp 17) 9 rfl eg (by go_simp) (C1.out _) ?_; rintro e w18 ⟨rfl, hb18⟩; refine ⟨_, rfl, ?_⟩; have K18 : Hid (BoxK wa.drew bx (p1, p2, p3) w18) := Lib.hid (KA.out.step hb18); have x0 := K18.out.b0; have x1 := K18.out.b1; have x2 := K18.out.b2; simp only at x0 x1 x2; clear hb18)
        | (refine step_call_one rfl 67 (.tmp 20) 9 rfl eg (by go_simp) (C2.out _) ?_; rintro e w21 ⟨rfl, hb21⟩; refine ⟨_, rfl, ?_⟩; have K21 : Hid (BoxK wa.drew bx (p1, p2, p3) w21) := Lib.hid (K18.out.step hb21); have z0 := K21.out.b0; have z1 := K21.out.b1; have z2 := K21.out.b2; simp only at z0 z1 z2; clear hb21)
        | (refine step_append_rules rfl (.tmp 15) (.tmp 25) w.heap.size k (gCells blkCell t) [(p1, p2, p3)] (by exact own_below OA.out (K21.out.bel.trans ((blw_one _ _).mono K21.out.bel.size))) (by exact rule_litR _ (p1, p2, p3)) rfl rfl (by go_simp) (by go_simp) (by exact Nat.le_trans SD (K21.out.bel.trans ((blw_one _ _).mono K21.out.bel.size)).size) (by simp only [List.length_cons, List.length_nil]; omega) ?_; intro v26 w26 h26 k26 j26; have O26 : Hid (w26.ownsRow w.heap.size 55 3 v26 (k + 1) (gCells blkCell (t ++ [(p1, p2, p3)]))) := Lib.hid (by rw [gCells_append]; exact h26); have B26 : Hid (Below w.heap.size w w26) := Lib.hid ((BA.out.trans ((K21.out.bel.trans ((blw_one _ _).mono K21.out.bel.size)).mono SD)).grown k26 (by exact Nat.le_trans SD (K21.out.bel.trans ((blw_one _ _).mono K21.out.bel.size)).size) (fun q hq => (OA.out.lt q hq).1)); clear h26 k26 j26))
      all_goals
        go_wp2
        exact ⟨⟨k + 1, by omega, by go_num, Lib.hid (by rw [HNEXT.out]; exact O26.out), B26⟩, by simp [RowKit.intOf]; omega⟩
    · obtain rfl : k = n := by omega
      go_wp2
      go_ret
      exact ⟨_, rfl, HO.out, BW.out⟩
end Go.Proofs.YtbbkkoeipkigdaaDoor
