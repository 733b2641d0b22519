/- Texts that several proofs of this seat share, one behind the other: CGat ESum RPlain. -/
import Derived.Test.YtnognphjndpgkaaGreatDoorPk11
import Derived.Test.YtnognphjndpgkaaGreatDoorPk9
import Derived.Test.YtnognphjndpgkaaGreatDoorPk4
import Derived.StillTailTactics
import Derived.Deep.RegionLaw
import Derived.Deep.RegionHeld3
import Derived.Test.YtnognphjndpgkaaGreatDoorPk8
/- errataref06.gathered: blocks, each once, in order. -/
namespace Go.Proofs.YtnognphjndpgkaaGreatDoor
open Go.RowKit Go.Shelf
set_option linter.unusedSimpArgs false
set_option linter.unusedVariables false

theorem blk_ln (x : Blk) : (blkCell x).length = 3 := rfl
theorem gat_take {l : List Blk} (k : Nat) (x : Blk) (h : l[k]? = some x) : gat (l.take (k + 1)) = insB x (gat (l.take k)) := by
  rw [List.take_add_one, h]; exact gat_snoc _ _
theorem own_lit43 (w : World) : (w.alloc (.cells #[] 34)).ownsRow w.heap.size 34 3 (.slice (some ⟨w.heap.size, 0, none⟩) 0 0) 0 [] :=
  ⟨by simp, .inr ⟨w.heap.size, 0, #[], rfl, Nat.le_refl _, heap_alloc_new w _, Nat.le_refl _, by simp [maxLen], by simp, by simp⟩⟩

/-- What a region with a call that makes memory keeps: a block of a row, a block in a box, all that is old. -/
structure KTwo (w : World) (b p c q : Nat) (y x : Blk) (w' : World) : Prop where
  a0 : w'.cell? ⟨b, p, none⟩ = some (.string y.1)
  a1 : w'.cell? ⟨b, p + 1, none⟩ = some (.string y.2.1)
  a2 : w'.cell? ⟨b, p + 2, none⟩ = some (.int .i64 y.2.2)
  b0 : w'.cell? ⟨c, q, none⟩ = some (.string x.1)
  b1 : w'.cell? ⟨c, q + 1, none⟩ = some (.string x.2.1)
  b2 : w'.cell? ⟨c, q + 2, none⟩ = some (.int .i64 x.2.2)
  lt : b < w'.heap.size
  lt' : c < w'.heap.size
  bel : Below w.heap.size w w'
theorem KTwo.step {w : World} {b p c q : Nat} {y x : Blk} {w' w'' : World} (h : KTwo w b p c q y x w') (hb : Below w'.heap.size w' w'') : KTwo w b p c q y x w'' :=
  ⟨(hb.cell (p := ⟨b, _, none⟩) h.lt).trans h.a0, (hb.cell (p := ⟨b, _, none⟩) h.lt).trans h.a1, (hb.cell (p := ⟨b, _, none⟩) h.lt).trans h.a2, (hb.cell (p := ⟨c, _, none⟩) h.lt').trans h.b0, (hb.cell (p := ⟨c, _, none⟩) h.lt').trans h.b1, (hb.cell (p := ⟨c, _, none⟩) h.lt').trans h.b2, Nat.lt_of_lt_of_le h.lt hb.size, Nat.lt_of_lt_of_le h.lt' hb.size, h.bel.trans (hb.mono h.bel.size)⟩

theorem own_litB (w : World) (b : Nat) (hb : b ≤ w.heap.size) : (w.alloc (.cells #[] 34)).ownsRow b 34 3 (.slice (some ⟨w.heap.size, 0, none⟩) 0 0) 0 [] :=
  ⟨by simp, .inr ⟨w.heap.size, 0, #[], rfl, hb, heap_alloc_new w _, Nat.le_refl _, by simp [maxLen], by simp, by simp⟩⟩
theorem blk_litR (w : World) (x : Blk) : GRuns blkCell 3 (w.alloc (.cells #[.string x.1, .string x.2.1, .int .i64 x.2.2] 34)) (.slice (some ⟨w.heap.size, 0, none⟩) 1 1) [x] := by
  have e0 := heap_alloc_new w (.cells #[.string x.1, .string x.2.1, .int .i64 x.2.2] 34)
  refine ⟨_, 1, rfl, Nat.le_refl _, ⟨by simp [maxLen], fun h => by cases h⟩, fun _ => ⟨w.heap.size, 0, rfl, by simp, fun j z hj i u hu => ?_⟩⟩
  obtain rfl : j = 0 := by have := (List.getElem?_eq_some_iff.1 hj).1; simpa using this
  obtain rfl : x = z := by simpa using hj
  rw [cell_of_row _ _ _ _ _ (0, 0) e0]
  simpa [blkCell] using hu
/-- A row that is kept where another block is turned. -/
theorem GRuns.aside {α : Type} {enc : α → List Value} {k : Nat} {w w' : World} {b o n c : Nat} {l : List α} {row : Option Nat} (h : GRuns enc k w (.slice (some ⟨b, o, none⟩) n c) l) (hg : w.grownBy w' row) (hne : some b ≠ row) : GRuns enc k w' (.slice (some ⟨b, o, none⟩) n c) l := by
  obtain ⟨A, c', e, hc, hm, hx⟩ := h
  refine ⟨A, c', e, hc, hm, fun h0 => ?_⟩
  obtain ⟨b', o', e2, hlt, hcell⟩ := hx h0
  obtain ⟨e1, _, _⟩ := Value.slice.inj e
  have e3 := Option.some.inj (e1.trans e2)
  simp only [Addr.mk.injEq] at e3
  obtain ⟨rfl, rfl, _⟩ := e3
  exact ⟨b, o, e2, Nat.lt_of_lt_of_le hlt hg.size, fun j x hj i u hu => (World.cell?_of_block (hg.block b hlt hne)).trans (hcell j x hj i u hu)⟩
/-- The ways in which two literals come to lie. -/
theorem lay_1 (D : World) (b : Nat) (hb : b ≤ D.heap.size) (x : Blk) : ((D.alloc (.cells #[] 34)).alloc (.cells #[.string x.1, .string x.2.1, .int .i64 x.2.2] 34)).ownsRow b 34 3 (.slice (some ⟨D.heap.size, 0, none⟩) 0 0) 0 [] ∧
    GRuns blkCell 3 ((D.alloc (.cells #[] 34)).alloc (.cells #[.string x.1, .string x.2.1, .int .i64 x.2.2] 34)) (.slice (some ⟨D.heap.size + 1, 0, none⟩) 1 1) [x] := by
  have h := blk_litR (D.alloc (.cells #[] 34)) x
  rw [World.size_alloc] at h
  exact ⟨(own_litB D b hb).alloc _, h⟩
theorem lay_2 (D : World) (b : Nat) (hb : b ≤ D.heap.size) (x : Blk) : ((D.alloc (.cells #[.string x.1, .string x.2.1, .int .i64 x.2.2] 34)).alloc (.cells #[] 34)).ownsRow b 34 3 (.slice (some ⟨D.heap.size + 1, 0, none⟩) 0 0) 0 [] ∧
    GRuns blkCell 3 ((D.alloc (.cells #[.string x.1, .string x.2.1, .int .i64 x.2.2] 34)).alloc (.cells #[] 34)) (.slice (some ⟨D.heap.size, 0, none⟩) 1 1) [x] := by
  have h := own_litB (D.alloc (.cells #[.string x.1, .string x.2.1, .int .i64 x.2.2] 34)) b (by simp; omega)
  rw [World.size_alloc] at h
  exact ⟨h, (blk_litR D x).below ((Below.refl _ _).alloc (Nat.le_refl _) _)⟩
theorem blw_1 (D : World) (o : Obj) : Below D.heap.size D (D.alloc o) := (Below.refl _ _).alloc (Nat.le_refl _) _
theorem blw_2 (D : World) (o o' : Obj) : Below D.heap.size D ((D.alloc o).alloc o') := ((Below.refl _ _).alloc (Nat.le_refl _) _).alloc (by simp) _
/-- What is known behind the first append, the second, the third. -/
structure ApK (w D : World) (t : List Blk) (v : Value) (W' : World) : Prop where
  own : W'.ownsRow w.heap.size 34 3 v t.length (gCells blkCell t)
  bel : Below D.heap.size D W'
  at_ : ∀ b, v.ownBlock = some b → D.heap.size ≤ b
/-- An append onto an owned row, as one step of a region that draws its order: what comes of it is told, not named. -/
theorem step_append_blks {ops : Array Oper} {o : Oper} {a : Act} {w : World} {K : Act → World → Prop} {Q : Exit → Act → World → Prop} {E : Prop} (hgd : o.guard = none) (s x : Operand) (base n : Nat) (xs : List Value) (ys : List Blk) {v u : Value}
    (hown : w.ownsRow base 34 3 v n xs) (hu : GRuns blkCell 3 w u ys) (ho : o.op = .call { callee := .builtin .append, args := #[s, x], argTypes := #[35, 35] }) (hty : o.type = 35) (hs : a.eval s = v) (hx : a.eval x = u)
    (hbase : base ≤ w.heap.size) (hlen : (n + ys.length) * 40 ≤ 140737488355328)
    (h : ∀ v' w', w'.ownsRow base 34 3 v' (n + ys.length) (xs ++ gCells blkCell ys) → w.grownBy w' v.ownBlock → (v'.ownBlock = v.ownBlock ∨ v'.ownBlock = some w.heap.size) → K (a.put o.dst v') w') : if Region.wanted o (yielded ops a.tmps) = true then Oper.wp Tryz.prog o a w K Q else E := by
  obtain ⟨v', w', hrun, h2, h3, h4⟩ := append_many (P := Tryz.prog) blk_ln blk_one info_blk rfl (by decide) (by decide) Tryz.underlying35 w base v n xs hown u ys hu hbase hlen
  exact step_append_run' hgd s x _ v u v' w' ho (by rw [hty]; exact hrun) hs hx (h v' w' h2 h3 h4)

/-- One append more, told in one word. -/
theorem ApK.next {w D W W' : World} {t ys : List Blk} {v v' : Value} {n : Nat} {xs : List Value} (hn : n = t.length) (hxs : xs = gCells blkCell t) (hD : w.heap.size ≤ D.heap.size) (hbW : Below D.heap.size D W) (hv : ∀ b, v.ownBlock = some b → D.heap.size ≤ b)
    (h1 : W'.ownsRow w.heap.size 34 3 v' (n + ys.length) (xs ++ gCells blkCell ys)) (h2 : W.grownBy W' v.ownBlock) (h3 : v'.ownBlock = v.ownBlock ∨ v'.ownBlock = some W.heap.size) : ApK w D (t ++ ys) v' W' := by
  subst hn hxs
  refine ⟨by rw [List.length_append, gCells_append]; exact h1, hbW.grown h2 hbW.size (fun b hb => hv b hb), fun b hb => ?_⟩
  rcases h3 with e | e
  · rw [e] at hb; exact hv b hb
  · rw [e] at hb
    have := hbW.size
    obtain rfl : W.heap.size = b := by simpa using hb
    exact this

set_option maxRecDepth 100000 in
set_option maxHeartbeats 8000000 in
theorem refGathered_any (u : Value) (l : List Blk) (w : World) (hu : BRuns w u l) (hl : l.length ≤ 1000000) (hok : okN l) :
    Calls Tryz.prog 40 #[u] w fun e w' => ∃ v, e = .returned v ∧ w'.ownsRow w.heap.size 34 3 v (gat l).length (gCells blkCell (gat l)) ∧ Below w.heap.size w w' := by
  obtain ⟨A, c, e⟩ := hu.slice
  subst e
  have HU := Lib.hid hu; clear hu
  have hfin : gat l = gat (l.take l.length) := by rw [List.take_length]
  rw [hfin]
  clear hfin
  obtain ⟨n, hn⟩ : ∃ n, l.length = n := ⟨_, rfl⟩
  rw [hn] at hl HU ⊢
  have HN := Lib.hid hn; clear hn
  have OK := Lib.hid hok; clear hok
  obtain ⟨G, hG⟩ : ∃ f, f = fun k => gat (l.take k) := ⟨_, rfl⟩
  have gst : ∀ k x, l[k]? = some x → G (k + 1) = insB x (G k) := fun k x hx => by rw [hG]; exact gat_take k x hx
  have gln : ∀ k, k ≤ n → (G k).length ≤ k := fun k hk => by
    rw [hG]; have := gat_len (l.take k); rw [List.length_take] at this; simp only; omega
  have gsm : ∀ k, ∀ b ∈ G k, b.2.2 ≤ 1073741824000000 ∧ 0 ≤ b.2.2 := fun k b hb => by
    rw [hG] at hb
    have hp : posN (l.take k) := fun z hz => (OK.out z (List.mem_of_mem_take hz)).1
    have h1 := mem_sumN (gat_pos hp) b hb
    have h2 := gat_pos hp b hb
    rw [gat_sum] at h1
    have h3 := (sumN_bound OK.out k)
    have h4 : sumN (l.take k) ≤ (n : Int) * 1073741824 := by
      rcases Nat.le_total k n with h | h
      · have : (k : Int) * 1073741824 ≤ (n : Int) * 1073741824 := by omega
        omega
      · rw [List.take_of_length_le (by rw [HN.out]; exact h)]
        have := (sumN_bound OK.out n).2
        rwa [List.take_of_length_le (by rw [HN.out]; exact Nat.le_refl _)] at this
    omega
  have g0 : G 0 = [] := by rw [hG]; rfl
  have hgo : gat (l.take n) = G n := by rw [hG]
  rw [hgo]
  clear hgo hG
  have GST := Lib.hid gst; have GLN := Lib.hid gln; have GSM := Lib.hid gsm
  clear gst gln gsm
  have CL := Lib.hid refLess_any
  go_enter Tryz.func40, Tryz.ntmps40
  go_wp2
  go_loopw [3, 9] (fun s3 s9 wr => ∃ k : Nat, k ≤ n ∧ s9 = .int .i64 k ∧ Hid (wr.ownsRow w.heap.size 34 3 s3 (G k).length (gCells blkCell (G k))) ∧ Hid (Below w.heap.size w wr)) (fun _ s9 _ => n - (RowKit.intOf s9).toNat)
  case atStart => exact ⟨0, Nat.zero_le _, rfl, Lib.hid (by rw [g0]; exact World.ownsRow_nil _ _ _ _), Lib.hid (Below.refl _ _)⟩
  case round =>
    obtain ⟨k, hkn, rfl, HO, BW⟩ := hrel
    by_cases hk : k < n
    · have k1 : (k : Int) < (n : Int) := by omega
      obtain ⟨⟨p1, p2, p3⟩, hp⟩ : ∃ p, l[k]? = some p := ⟨_, List.getElem?_eq_getElem (by rw [HN.out]; exact hk)⟩
      obtain ⟨b, o, rfl, hblt, hc⟩ := (HU.out.below BW.out).cells HN.out (by omega)
      obtain ⟨e0, e1, e2⟩ := blk_cells hc hp
      simp only at e0 e1 e2
      have hN3 := OK.out _ (List.mem_of_getElem? hp)
      simp only at hN3
      have hg1 := GST.out k _ hp
      have hgl := GLN.out k hkn
      have hgs := GSM.out k
      obtain ⟨g, hg⟩ : ∃ g, G k = g := ⟨_, rfl⟩
      rw [hg] at HO hg1 hgl hgs
      have HG1 := Lib.hid hg1; have HGS := Lib.hid hgs
      clear hg hg1 hgs hc hp
      obtain ⟨m, hm⟩ : ∃ m, g.length = m := ⟨_, rfl⟩
      rw [hm] at HO hgl
      have HM := Lib.hid hm; clear hm
      have GR := Lib.hid (GRuns.of_own blk_ln HM.out HO.out)
      obtain ⟨A', c', hv⟩ := GR.out.slice
      rw [HM.out] at hv
      subst hv
      have hal : Below wr.heap.size wr (wr.alloc (.cells #[.string p1, .string p2, .int .i64 p3] 34)) := (Below.refl _ _).alloc (Nat.le_refl _) _
      obtain ⟨wa, hwa⟩ : ∃ z, wr.alloc (.cells #[.string p1, .string p2, .int .i64 p3] 34) = z := ⟨_, rfl⟩
      have e3 : wa.heap[wr.heap.size]? = some (.cells #[.string p1, .string p2, .int .i64 p3] 34 (0, 0)) := by rw [← hwa]; exact heap_alloc_new wr _
      rw [hwa] at hal
      have HWA := Lib.hid hwa; clear hwa
      have E3 := Lib.hid e3; clear e3
      have BA : Hid (Below w.heap.size w wa) := Lib.hid (BW.out.trans (hal.mono BW.out.size))
      have OA := Lib.hid (own_below HO.out hal)
      have LTA : wr.heap.size < wa.heap.size := (Array.getElem?_eq_some_iff.1 E3.out).1
      have SZ : w.heap.size ≤ wr.heap.size := BW.out.size
      obtain ⟨bx, hbx⟩ : ∃ z, wr.heap.size = z := ⟨_, rfl⟩
      rw [hbx] at E3 LTA SZ
      have HBX := Lib.hid hbx
      clear hal HO GR hbx
      go_wp2
      rw [HWA.out, HBX.out]
      clear HWA e0 e1 e2
      go_loopw [6] (fun s6 wr' => ∃ q : Nat, q ≤ m ∧ s6 = .int .i64 q ∧ Hid (∀ j y, j < q → g[j]? = some y → lessB y (p1, p2, p3) = true) ∧ Hid (Below wa.heap.size wa wr')) (fun s6 _ => m - (RowKit.intOf s6).toNat)
      case atStart => exact ⟨0, Nat.zero_le _, rfl, Lib.hid (fun j y hj => by omega), Lib.hid (Below.refl _ _)⟩
      case round =>
        obtain ⟨q, hqm, rfl, HB, BQ⟩ := hrel
        have OQ := Lib.hid (own_below OA.out BQ.out)
        have Bwr : Hid (Below w.heap.size w wr) := Lib.hid (BA.out.trans (BQ.out.mono BA.out.size))
        have EQ3 : Hid (wr.heap[bx]? = some (.cells #[.string p1, .string p2, .int .i64 p3] 34 (0, 0))) := Lib.hid ((BQ.out.block _ LTA).trans E3.out)
        have LTQ : bx < wr.heap.size := Nat.lt_of_lt_of_le LTA BQ.out.size
        by_cases hq : q < m
        · have q1 : (q : Int) < (m : Int) := by omega
          obtain ⟨gb, rfl⟩ : ∃ gb, A' = some ⟨gb, 0, none⟩ := by
            rcases OQ.out.2 with ⟨e, h0⟩ | ⟨gb, cap, cur, e, _⟩
            · obtain ⟨_, e2, _⟩ := Value.slice.inj e
              omega
            · exact ⟨gb, (Value.slice.inj e).1⟩
          have GQ := GRuns.of_own blk_ln HM.out OQ.out
          obtain ⟨⟨y1, y2, y3⟩, hy⟩ : ∃ y, g[q]? = some y := ⟨_, List.getElem?_eq_getElem (by rw [HM.out]; exact hq)⟩
          obtain ⟨b', o', eb, hgl', hc'⟩ := GQ.cells HM.out (by omega)
          have eb1 := Option.some.inj eb
          simp only [Addr.mk.injEq] at eb1
          obtain ⟨rfl, rfl, _⟩ := eb1
          obtain ⟨f0, f1, f2⟩ := blk_cells hc' hy
          simp only [Nat.zero_add] at f0 f1 f2
          have f3 : wr.cell? ⟨bx, 0, none⟩ = some (.string p1) := by simp [World.cell?, EQ3.out]
          have f4 : wr.cell? ⟨bx, 1, none⟩ = some (.string p2) := by simp [World.cell?, EQ3.out]
          have f5 : wr.cell? ⟨bx, 2, none⟩ = some (.int .i64 p3) := by simp [World.cell?, EQ3.out]
          have hyN := HGS.out _ (List.mem_of_getElem? hy)
          simp only at hyN
          have c5 := fun w => CL.out y1 y2 p1 p2 y3 p3 w
          obtain ⟨le, hle⟩ : ∃ z, lessB (y1, y2, y3) (p1, p2, p3) = z := ⟨_, rfl⟩
          simp only [hle] at c5
          have C := Lib.hid c5; have HLE := Lib.hid hle; have HY := Lib.hid hy
          clear c5 hle hy hc' GQ eb
          have KD : Hid (KTwo wa gb (q * 3) bx 0 (y1, y2, y3) (p1, p2, p3) wr.drew) := Lib.hid ⟨f0, f1, f2, f3, f4, f5, hgl', LTQ, BQ.out.drew⟩
          go_wp2
          go_region_held3 (fun w' => w'.cell? ⟨gb, q * 3, none⟩ = some (.string y1) ∧ w'.cell? ⟨gb, q * 3 + 1, none⟩ = some (.string y2) ∧ w'.cell? ⟨gb, q * 3 + 2, none⟩ = some (.int .i64 y3) ∧ w'.cell? ⟨bx, 0, none⟩ = some (.string p1) ∧ w'.cell? ⟨bx, 1, none⟩ = some (.string p2) ∧ w'.cell? ⟨bx, 2, none⟩ = some (.int .i64 p3) ∧ Hid (KTwo wa gb (q * 3) bx 0 (y1, y2, y3) (p1, p2, p3) w'))
            (first | exact ⟨f0, f1, f2, f3, f4, f5, KD⟩ | exact ⟨HKn.out.a0, HKn.out.a1, HKn.out.a2, HKn.out.b0, HKn.out.b1, HKn.out.b2, HKn⟩ | go_keep)
            (first
              | (go_at_call 41; refine (C.out _).mono ?_; rintro e w4 ⟨rfl, hb4⟩; have HKn := Lib.hid ((by assumption : Hid (KTwo wa gb (q * 3) bx 0 (y1, y2, y3) (p1, p2, p3) _)).out.step hb4); clear hb4))
          rename_i hHeld
          clear hHeld f0 f1 f2 f3 f4 f5
          cases le
          · have O4 := Lib.hid (own_below OA.out HKn.out.bel)
            have B4 : Hid (Below w.heap.size w w4) := Lib.hid (BA.out.trans (HKn.out.bel.mono BA.out.size))
            have hins := ins_at (p1, p2, p3) g q HB.out (by rw [HM.out]; exact hqm) (fun y hy => by
              rw [HY.out] at hy
              obtain rfl := Option.some.inj hy
              exact HLE.out)
            have HINS := Lib.hid hins; clear hins
            have f0 := HKn.out.a0; have f1 := HKn.out.a1; have f2 := HKn.out.a2; have f3 := HKn.out.b0; have f4 := HKn.out.b1; have f5 := HKn.out.b2
            simp only [Nat.zero_add] at f0 f1 f2 f3 f4 f5
            clear BQ OQ EQ3 C KD
            by_cases hsm : sameS (y1, y2, y3) (p1, p2, p3)
            · obtain ⟨h1, h2⟩ := hsm
              simp only at h1 h2
              subst h1 h2
              have hnew : Hid (G (k + 1) = g.set q (y1, y2, y3 + p3)) := Lib.hid (by rw [HG1.out]; exact HINS.out.1 _ HY.out ⟨rfl, rfl⟩)
              clear HINS
              have hsum : IntKind.i64.wrap (y3 + p3) = y3 + p3 := by rw [IntKind.wrap_i64]; omega
              go_wp2
              go_quiet (fail)
              go_wp2
              obtain ⟨w5, hw5⟩ : ∃ w5, w5 = w4.drewN nq := ⟨_, rfl⟩
              have h45 : Below w4.heap.size w4 w5 := by rw [hw5]; exact below_draws (Below.refl _ _) _
              have O5 := Lib.hid (own_below O4.out h45)
              have B5 : Hid (Below w.heap.size w w5) := Lib.hid (B4.out.trans (h45.mono B4.out.size))
              have x2 : w5.cell? ⟨gb, q * 3 + 2, none⟩ = some (.int .i64 y3) := by rw [hw5]; exact f2
              have x5 : w5.cell? ⟨bx, 2, none⟩ = some (.int .i64 p3) := by rw [hw5]; exact f5
              rw [← hw5]
              clear hw5 h45 f0 f1 f2 f3 f4 f5 O4 B4
              go_still_tail 8, (by kernel_rfl)
              change wpList _ _ _ _ _ w5.drew
              obtain ⟨w6, hw6⟩ : ∃ w6, w6 = w5.drew := ⟨_, rfl⟩
              have O6 : Hid (w6.ownsRow w.heap.size 34 3 (.slice (some ⟨gb, 0, none⟩) m c') m (gCells blkCell g)) := Lib.hid (by rw [hw6]; exact O5.out)
              have B6 : Hid (Below w.heap.size w w6) := Lib.hid (by rw [hw6]; exact B5.out.drew)
              have z2 : w6.cell? ⟨gb, q * 3 + 2, none⟩ = some (.int .i64 y3) := by rw [hw6]; exact x2
              rw [← hw6]
              clear hw6 x2 x5 O5 B5
              have z3 := own_thaw O6.out (q * 3 + 2)
              have hgb : w.heap.size ≤ gb := by
                rcases O6.out.2 with ⟨e, _⟩ | ⟨g', cap, cur, e, hb, _⟩
                · cases e
                · simp only [Value.slice.injEq, Option.some.injEq, Addr.mk.injEq] at e
                  obtain ⟨⟨rfl, _⟩, _⟩ := e
                  exact hb
              have hend : Hid ((w6.setCell ⟨gb, q * 3 + 2, none⟩ (.int .i64 (y3 + p3))).ownsRow w.heap.size 34 3 (.slice (some ⟨gb, 0, none⟩) m c') (G (k + 1)).length (gCells blkCell (G (k + 1))) ∧ Below w.heap.size w (w6.setCell ⟨gb, q * 3 + 2, none⟩ (.int .i64 (y3 + p3)))) := Lib.hid ⟨by
                have h1 := own_store O6.out (q * 3 + 2) (by omega) (.int .i64 (y3 + p3))
                rw [gCells_setN g q (y1, y2, y3) (y3 + p3) HY.out] at h1
                rw [hnew.out, List.length_set, HM.out]
                exact h1, B6.out.setCell hgb _⟩
              go_wp2
              exact ⟨⟨k + 1, by omega, by go_num, Lib.hid hend.out.1, Lib.hid hend.out.2⟩, by simp [RowKit.intOf]; omega⟩
            · have hnew : Hid (G (k + 1) = g.take q ++ [(p1, p2, p3)] ++ g.drop q) := Lib.hid (by
                rw [HG1.out]
                exact HINS.out.2 (fun x hx => by rw [HY.out] at hx; obtain rfl := Option.some.inj hx; exact hsm))
              clear HINS
              have hcs : (y1.toList == p1.toList) = false ∨ ((y1.toList == p1.toList) = true ∧ (y2.toList == p2.toList) = false) := by
                by_cases h1 : y1 = p1
                · right
                  exact ⟨by rw [h1]; simp, beq_eq_false_iff_ne.2 (fun e => hsm ⟨h1, toList_ext e⟩)⟩
                · left; exact beq_eq_false_iff_ne.2 (fun e => h1 (toList_ext e))
              clear hsm
              obtain ⟨hmc, hcm⟩ : m ≤ c' ∧ c' ≤ maxLen := by
                rcases O4.out.2 with ⟨e, _⟩ | ⟨g', cap, cur, e, _, _, h1, h2, _⟩
                · cases e
                · obtain ⟨_, _, rfl⟩ := Value.slice.inj e
                  exact ⟨h1, h2⟩
              unfold maxLen at hcm
              have gR := GRuns.of_own blk_ln HM.out O4.out
              have gX1 := Lib.hid (gR.front HM.out q (by omega))
              have gX2 := Lib.hid (gR.back HM.out q hq)
              clear gR
              have r1 : (q : Int) ≤ (c' : Int) := by omega
              have r2 : (m : Int) ≤ (c' : Int) := by omega
              have r3 : (q : Int) ≤ (m : Int) := by omega
              have r4 : ¬ c' = q := by omega
              rcases hcs with h1 | ⟨h0, h1⟩
              all_goals
                go_wp2
                go_quiet (fail)
                go_wp2
                obtain ⟨w5, hw5⟩ : ∃ w5, w5 = w4.drewN nq := ⟨_, rfl⟩
                have h4D : Below w4.heap.size w4 w5.drew := by rw [hw5]; exact (below_draws (Below.refl _ _) _).drew
                have X1 := Lib.hid (gX1.out.below h4D)
                have X2 := Lib.hid (gX2.out.below h4D)
                have BD : Hid (Below w.heap.size w w5.drew) := Lib.hid (B4.out.trans (h4D.mono B4.out.size))
                have SD : w.heap.size ≤ w5.drew.heap.size := BD.out.size
                have LB : bx < w5.drew.heap.size := Nat.lt_of_lt_of_le HKn.out.lt' h4D.size
                have x3 : w5.drew.cell? ⟨bx, 0, none⟩ = some (.string p1) := by rw [hw5]; exact f3
                have x4 : w5.drew.cell? ⟨bx, 1, none⟩ = some (.string p2) := by rw [hw5]; exact f4
                have x5 : w5.drew.cell? ⟨bx, 2, none⟩ = some (.int .i64 p3) := by rw [hw5]; exact f5
                rw [← hw5]
                clear hw5 h4D gX1 gX2 f0 f1 f2 f3 f4 f5 O4 B4 h1
                have CE : Hid (∀ W, Below w5.drew.heap.size w5.drew W → W.cell? ⟨bx, 0, none⟩ = some (.string p1) ∧ W.cell? ⟨bx, 1, none⟩ = some (.string p2) ∧ W.cell? ⟨bx, 2, none⟩ = some (.int .i64 p3)) := Lib.hid (fun W hb => ⟨(hb.cell (p := ⟨bx, 0, none⟩) LB).trans x3, (hb.cell (p := ⟨bx, 1, none⟩) LB).trans x4, (hb.cell (p := ⟨bx, 2, none⟩) LB).trans x5⟩)
                obtain ⟨a3, a4, a5⟩ := CE.out _ (blw_1 w5.drew (.cells #[] 34))
                have b3 : (w5.alloc (.cells #[] 34)).cell? ⟨bx, 0, none⟩ = some (.string p1) := a3
                have b4 : (w5.alloc (.cells #[] 34)).cell? ⟨bx, 1, none⟩ = some (.string p2) := a4
                have b5 : (w5.alloc (.cells #[] 34)).cell? ⟨bx, 2, none⟩ = some (.int .i64 p3) := a5
                have d3 : (w5.alloc (.cells #[] 34)).drew.cell? ⟨bx, 0, none⟩ = some (.string p1) := a3
                have d4 : (w5.alloc (.cells #[] 34)).drew.cell? ⟨bx, 1, none⟩ = some (.string p2) := a4
                have d5 : (w5.alloc (.cells #[] 34)).drew.cell? ⟨bx, 2, none⟩ = some (.int .i64 p3) := a5
                have hmix : Tryz.prog.follows .mixedOrders = true := by kernel_rfl
                have tq : (g.take q).length = q := by rw [List.length_take, HM.out]; omega
                have dq : (g.drop q).length = m - q := by rw [List.length_drop, HM.out]
                have HTQ := Lib.hid tq; have HDQ := Lib.hid dq; clear tq dq
                have SD5 : w.heap.size ≤ w5.heap.size := SD
                go_region_law (first
                  | (refine step_append_blks rfl (.tmp 61) (.tmp 64) w.heap.size 0 [] (g.take q) (by first | exact own_litB _ _ SD | exact (lay_1 _ _ SD (p1, p2, p3)).1 | exact (lay_2 _ _ SD (p1, p2, p3)).1) (by first | exact X1.out.below (blw_1 _ _) | exact X1.out.below (blw_2 _ _ _)) rfl rfl (by go_simp) (by go_simp) (by simp <;> omega) (by rw [HTQ.out]; omega) ?_; intro v65 w65 h65 k65 j65; have K65 : Hid (ApK w w5.drew (g.take q) v65 w65) := Lib.hid (by first | exact ApK.next (t := []) rfl rfl SD (blw_1 _ _) (fun b hb => by simp [Value.ownBlock] at hb; show w5.heap.size ≤ b; omega) h65 k65 j65 | exact ApK.next (t := []) rfl rfl SD (blw_2 _ _ _) (fun b hb => by simp [Value.ownBlock] at hb; show w5.heap.size ≤ b; omega) h65 k65 j65); obtain ⟨k3, k4, k5⟩ := CE.out w65 K65.out.bel; (first | have L65 := Lib.hid ((lay_1 w5.drew _ SD (p1, p2, p3)).2.aside k65 (by simp [Value.ownBlock])) | have L65 := Lib.hid ((lay_2 w5.drew _ SD (p1, p2, p3)).2.aside k65 (by simp [Value.ownBlock])) | skip); clear h65 k65 j65)
                  | (refine step_append_blks rfl (.tmp 65) (.tmp 67) w.heap.size (g.take q).length (gCells blkCell (g.take q)) [(p1, p2, p3)] (by first | exact K65.out.own | exact K65.out.own.alloc _) (by first | exact blk_litR _ (p1, p2, p3) | exact L65.out) rfl rfl (by go_simp) (by go_simp) (by first | exact Nat.le_trans SD K65.out.bel.size | exact Nat.le_trans (Nat.le_trans SD K65.out.bel.size) (blw_1 _ _).size) (by rw [HTQ.out]; show (q + 1) * 40 ≤ 140737488355328; omega) ?_; intro v68 w68 h68 k68 j68; have K68 : Hid (ApK w w5.drew (g.take q ++ [(p1, p2, p3)]) v68 w68) := Lib.hid (by first | exact ApK.next rfl rfl SD K65.out.bel K65.out.at_ h68 k68 j68 | exact ApK.next rfl rfl SD (K65.out.bel.trans ((blw_1 _ _).mono K65.out.bel.size)) K65.out.at_ h68 k68 j68); clear h68 k68 j68)
                  | (refine step_append_blks rfl (.tmp 68) (.tmp 71) w.heap.size (g.take q ++ [(p1, p2, p3)]).length (gCells blkCell (g.take q ++ [(p1, p2, p3)])) (g.drop q) (by exact K68.out.own) (by exact (by simpa using X2.out.below K68.out.bel)) rfl rfl (by go_simp) (by go_simp) (by exact Nat.le_trans SD K68.out.bel.size) (by rw [List.length_append, HTQ.out, HDQ.out]; show (q + 1 + (m - q)) * 40 ≤ 140737488355328; omega) ?_; intro v72 w72 h72 k72 j72; have K72 : Hid (ApK w w5.drew (g.take q ++ [(p1, p2, p3)] ++ g.drop q) v72 w72) := Lib.hid (ApK.next rfl rfl SD K68.out.bel K68.out.at_ h72 k72 j72); clear h72 k72 j72))
                all_goals
                  go_wp2
                  exact ⟨⟨k + 1, by omega, by go_num, Lib.hid (by rw [hnew.out]; exact K72.out.own), Lib.hid (BD.out.trans (K72.out.bel.mono SD))⟩, by simp [RowKit.intOf]; omega⟩
          · go_wp2
            exact ⟨⟨q + 1, by omega, by go_num, Lib.hid (fun j y hj hy => by
              rcases Nat.lt_or_ge j q with h | h
              · exact HB.out j y h hy
              · obtain rfl : j = q := by omega
                rw [HY.out] at hy
                obtain rfl := Option.some.inj hy
                exact HLE.out), Lib.hid HKn.out.bel⟩, by simp [RowKit.intOf]; omega⟩
        · obtain rfl : q = m := by omega
          have O4 := OQ
          have B4 : Hid (Below w.heap.size w wr) := Lib.hid (BA.out.trans (BQ.out.mono BA.out.size))
          have hins := ins_at (p1, p2, p3) g q HB.out (by rw [HM.out]; exact Nat.le_refl _) (fun y hy => by rw [List.getElem?_eq_none (by rw [HM.out]; exact Nat.le_refl _)] at hy; cases hy)
          have hnew : Hid (G (k + 1) = g.take q ++ [(p1, p2, p3)] ++ g.drop q) := Lib.hid (by
            rw [HG1.out]
            exact hins.2 (fun x hx => by rw [List.getElem?_eq_none (by rw [HM.out]; exact Nat.le_refl _)] at hx; cases hx))
          clear hins
          have f3 : wr.cell? ⟨bx, 0, none⟩ = some (.string p1) := by simp [World.cell?, EQ3.out]
          have f4 : wr.cell? ⟨bx, 1, none⟩ = some (.string p2) := by simp [World.cell?, EQ3.out]
          have f5 : wr.cell? ⟨bx, 2, none⟩ = some (.int .i64 p3) := by simp [World.cell?, EQ3.out]
          have hq1 : ¬ (q : Int) < (q : Int) := by omega
          have hdr : g.drop q = [] := List.drop_of_length_le (by rw [HM.out]; exact Nat.le_refl _)
          have hvs : (A' = none ∧ q = 0 ∧ c' = 0) ∨ ∃ gb, A' = some ⟨gb, 0, none⟩ ∧ q ≤ c' ∧ c' ≤ maxLen := by
            rcases O4.out.2 with ⟨e, h0⟩ | ⟨gb, cap, cur, e, _, _, h1, h2, _⟩
            · obtain ⟨e1, e2, e3⟩ := Value.slice.inj e
              exact .inl ⟨e1, e2, e3⟩
            · obtain ⟨e1, _, rfl⟩ := Value.slice.inj e
              exact .inr ⟨gb, e1, h1, h2⟩
          have gR := GRuns.of_own blk_ln HM.out O4.out
          have gX1 := Lib.hid (gR.front HM.out q (Nat.le_refl _))
          clear gR
          rcases hvs with ⟨rfl, rfl, rfl⟩ | ⟨gb, rfl, hqc, hcm⟩
          · have gX2 : Hid (GRuns blkCell 3 wr (.slice none 0 0) (g.drop 0)) := Lib.hid (by rw [hdr]; exact GRuns.nil_ _ _ _)
            clear OQ EQ3 BQ hq1
            go_wp2
            go_quiet (fail)
            revert nq
            intro nqa
            go_wp2
            go_quiet (fail)
            revert nq
            intro nqb
            go_wp2
            obtain ⟨w5, hw5⟩ : ∃ w5, w5 = (wr.drewN nqa).drewN nqb := ⟨_, rfl⟩
            have h4D : Below wr.heap.size wr w5.drew := by rw [hw5]; exact (below_draws (below_draws (Below.refl _ _) _) _).drew
            have X1 := Lib.hid (gX1.out.below h4D)
            have X2 := Lib.hid (gX2.out.below h4D)
            have BD : Hid (Below w.heap.size w w5.drew) := Lib.hid (B4.out.trans (h4D.mono B4.out.size))
            have SD : w.heap.size ≤ w5.drew.heap.size := BD.out.size
            have LB : bx < w5.drew.heap.size := Nat.lt_of_lt_of_le LTQ h4D.size
            have x3 : w5.drew.cell? ⟨bx, 0, none⟩ = some (.string p1) := by rw [hw5]; exact f3
            have x4 : w5.drew.cell? ⟨bx, 1, none⟩ = some (.string p2) := by rw [hw5]; exact f4
            have x5 : w5.drew.cell? ⟨bx, 2, none⟩ = some (.int .i64 p3) := by rw [hw5]; exact f5
            rw [← hw5]
            clear hw5 h4D gX1 gX2 f3 f4 f5 O4 B4
            have CE : Hid (∀ W, Below w5.drew.heap.size w5.drew W → W.cell? ⟨bx, 0, none⟩ = some (.string p1) ∧ W.cell? ⟨bx, 1, none⟩ = some (.string p2) ∧ W.cell? ⟨bx, 2, none⟩ = some (.int .i64 p3)) := Lib.hid (fun W hb => ⟨(hb.cell (p := ⟨bx, 0, none⟩) LB).trans x3, (hb.cell (p := ⟨bx, 1, none⟩) LB).trans x4, (hb.cell (p := ⟨bx, 2, none⟩) LB).trans x5⟩)
            obtain ⟨a3, a4, a5⟩ := CE.out _ (blw_1 w5.drew (.cells #[] 34))
            have b3 : (w5.alloc (.cells #[] 34)).cell? ⟨bx, 0, none⟩ = some (.string p1) := a3
            have b4 : (w5.alloc (.cells #[] 34)).cell? ⟨bx, 1, none⟩ = some (.string p2) := a4
            have b5 : (w5.alloc (.cells #[] 34)).cell? ⟨bx, 2, none⟩ = some (.int .i64 p3) := a5
            have d3 : (w5.alloc (.cells #[] 34)).drew.cell? ⟨bx, 0, none⟩ = some (.string p1) := a3
            have d4 : (w5.alloc (.cells #[] 34)).drew.cell? ⟨bx, 1, none⟩ = some (.string p2) := a4
            have d5 : (w5.alloc (.cells #[] 34)).drew.cell? ⟨bx, 2, none⟩ = some (.int .i64 p3) := a5
            have hmix : Tryz.prog.follows .mixedOrders = true := by kernel_rfl
            have tq : (g.take 0).length = 0 := by rw [List.length_take, HM.out]; omega
            have dq : (g.drop 0).length = 0 - 0 := by rw [List.length_drop, HM.out]
            have HTQ := Lib.hid tq; have HDQ := Lib.hid dq; clear tq dq
            have SD5 : w.heap.size ≤ w5.heap.size := SD
            go_region_law (first
              | (refine step_append_blks rfl (.tmp 61) (.tmp 64) w.heap.size 0 [] (g.take 0) (by first | exact own_litB _ _ SD | exact (lay_1 _ _ SD (p1, p2, p3)).1 | exact (lay_2 _ _ SD (p1, p2, p3)).1) (by first | exact X1.out.below (blw_1 _ _) | exact X1.out.below (blw_2 _ _ _)) rfl rfl (by go_simp) (by go_simp) (by simp <;> omega) (by rw [HTQ.out]; omega) ?_; intro v65 w65 h65 k65 j65; have K65 : Hid (ApK w w5.drew (g.take 0) v65 w65) := Lib.hid (by first | exact ApK.next (t := []) rfl rfl SD (blw_1 _ _) (fun b hb => by simp [Value.ownBlock] at hb; show w5.heap.size ≤ b; omega) h65 k65 j65 | exact ApK.next (t := []) rfl rfl SD (blw_2 _ _ _) (fun b hb => by simp [Value.ownBlock] at hb; show w5.heap.size ≤ b; omega) h65 k65 j65); obtain ⟨k3, k4, k5⟩ := CE.out w65 K65.out.bel; (first | have L65 := Lib.hid ((lay_1 w5.drew _ SD (p1, p2, p3)).2.aside k65 (by simp [Value.ownBlock])) | have L65 := Lib.hid ((lay_2 w5.drew _ SD (p1, p2, p3)).2.aside k65 (by simp [Value.ownBlock])) | skip); clear h65 k65 j65)
              | (refine step_append_blks rfl (.tmp 65) (.tmp 67) w.heap.size (g.take 0).length (gCells blkCell (g.take 0)) [(p1, p2, p3)] (by first | exact K65.out.own | exact K65.out.own.alloc _) (by first | exact blk_litR _ (p1, p2, p3) | exact L65.out) rfl rfl (by go_simp) (by go_simp) (by first | exact Nat.le_trans SD K65.out.bel.size | exact Nat.le_trans (Nat.le_trans SD K65.out.bel.size) (blw_1 _ _).size) (by rw [HTQ.out]; show (0 + 1) * 40 ≤ 140737488355328; omega) ?_; intro v68 w68 h68 k68 j68; have K68 : Hid (ApK w w5.drew (g.take 0 ++ [(p1, p2, p3)]) v68 w68) := Lib.hid (by first | exact ApK.next rfl rfl SD K65.out.bel K65.out.at_ h68 k68 j68 | exact ApK.next rfl rfl SD (K65.out.bel.trans ((blw_1 _ _).mono K65.out.bel.size)) K65.out.at_ h68 k68 j68); clear h68 k68 j68)
              | (refine step_append_blks rfl (.tmp 68) (.tmp 71) w.heap.size (g.take 0 ++ [(p1, p2, p3)]).length (gCells blkCell (g.take 0 ++ [(p1, p2, p3)])) (g.drop 0) (by exact K68.out.own) (by exact (by simpa using X2.out.below K68.out.bel)) rfl rfl (by go_simp) (by go_simp) (by exact Nat.le_trans SD K68.out.bel.size) (by rw [List.length_append, HTQ.out, HDQ.out]; show (0 + 1 + (0 - 0)) * 40 ≤ 140737488355328; omega) ?_; intro v72 w72 h72 k72 j72; have K72 : Hid (ApK w w5.drew (g.take 0 ++ [(p1, p2, p3)] ++ g.drop 0) v72 w72) := Lib.hid (ApK.next rfl rfl SD K68.out.bel K68.out.at_ h72 k72 j72); clear h72 k72 j72))
            all_goals
              go_wp2
              exact ⟨⟨k + 1, by omega, by go_num, Lib.hid (by rw [hnew.out]; exact K72.out.own), Lib.hid (BD.out.trans (K72.out.bel.mono SD))⟩, by simp [RowKit.intOf]; omega⟩
          · unfold maxLen at hcm
            have r1 : (q : Int) ≤ (c' : Int) := by omega
            by_cases hcq : c' = q
            · subst hcq
              have gX2 : Hid (GRuns blkCell 3 wr (.slice (some ⟨gb, 0, none⟩) 0 0) (g.drop c')) := Lib.hid (by rw [hdr]; exact GRuns.none_ (by simp [maxLen]) (fun h => by cases h))
              clear OQ EQ3 BQ
              go_wp2
              go_quiet (fail)
              revert nq
              intro nqa
              go_wp2
              go_quiet (fail)
              revert nq
              intro nqb
              go_wp2
              obtain ⟨w5, hw5⟩ : ∃ w5, w5 = (wr.drewN nqa).drewN nqb := ⟨_, rfl⟩
              have h4D : Below wr.heap.size wr w5.drew := by rw [hw5]; exact (below_draws (below_draws (Below.refl _ _) _) _).drew
              have X1 := Lib.hid (gX1.out.below h4D)
              have X2 := Lib.hid (gX2.out.below h4D)
              have BD : Hid (Below w.heap.size w w5.drew) := Lib.hid (B4.out.trans (h4D.mono B4.out.size))
              have SD : w.heap.size ≤ w5.drew.heap.size := BD.out.size
              have LB : bx < w5.drew.heap.size := Nat.lt_of_lt_of_le LTQ h4D.size
              have x3 : w5.drew.cell? ⟨bx, 0, none⟩ = some (.string p1) := by rw [hw5]; exact f3
              have x4 : w5.drew.cell? ⟨bx, 1, none⟩ = some (.string p2) := by rw [hw5]; exact f4
              have x5 : w5.drew.cell? ⟨bx, 2, none⟩ = some (.int .i64 p3) := by rw [hw5]; exact f5
              rw [← hw5]
              clear hw5 h4D gX1 gX2 f3 f4 f5 O4 B4
              have CE : Hid (∀ W, Below w5.drew.heap.size w5.drew W → W.cell? ⟨bx, 0, none⟩ = some (.string p1) ∧ W.cell? ⟨bx, 1, none⟩ = some (.string p2) ∧ W.cell? ⟨bx, 2, none⟩ = some (.int .i64 p3)) := Lib.hid (fun W hb => ⟨(hb.cell (p := ⟨bx, 0, none⟩) LB).trans x3, (hb.cell (p := ⟨bx, 1, none⟩) LB).trans x4, (hb.cell (p := ⟨bx, 2, none⟩) LB).trans x5⟩)
              obtain ⟨a3, a4, a5⟩ := CE.out _ (blw_1 w5.drew (.cells #[] 34))
              have b3 : (w5.alloc (.cells #[] 34)).cell? ⟨bx, 0, none⟩ = some (.string p1) := a3
              have b4 : (w5.alloc (.cells #[] 34)).cell? ⟨bx, 1, none⟩ = some (.string p2) := a4
              have b5 : (w5.alloc (.cells #[] 34)).cell? ⟨bx, 2, none⟩ = some (.int .i64 p3) := a5
              have d3 : (w5.alloc (.cells #[] 34)).drew.cell? ⟨bx, 0, none⟩ = some (.string p1) := a3
              have d4 : (w5.alloc (.cells #[] 34)).drew.cell? ⟨bx, 1, none⟩ = some (.string p2) := a4
              have d5 : (w5.alloc (.cells #[] 34)).drew.cell? ⟨bx, 2, none⟩ = some (.int .i64 p3) := a5
              have hmix : Tryz.prog.follows .mixedOrders = true := by kernel_rfl
              have tq : (g.take c').length = c' := by rw [List.length_take, HM.out]; omega
              have dq : (g.drop c').length = c' - c' := by rw [List.length_drop, HM.out]
              have HTQ := Lib.hid tq; have HDQ := Lib.hid dq; clear tq dq
              have SD5 : w.heap.size ≤ w5.heap.size := SD
              go_region_law (first
                | (refine step_append_blks rfl (.tmp 61) (.tmp 64) w.heap.size 0 [] (g.take c') (by first | exact own_litB _ _ SD | exact (lay_1 _ _ SD (p1, p2, p3)).1 | exact (lay_2 _ _ SD (p1, p2, p3)).1) (by first | exact X1.out.below (blw_1 _ _) | exact X1.out.below (blw_2 _ _ _)) rfl rfl (by go_simp) (by go_simp) (by simp <;> omega) (by rw [HTQ.out]; omega) ?_; intro v65 w65 h65 k65 j65; have K65 : Hid (ApK w w5.drew (g.take c') v65 w65) := Lib.hid (by first | exact ApK.next (t := []) rfl rfl SD (blw_1 _ _) (fun b hb => by simp [Value.ownBlock] at hb; show w5.heap.size ≤ b; omega) h65 k65 j65 | exact ApK.next (t := []) rfl rfl SD (blw_2 _ _ _) (fun b hb => by simp [Value.ownBlock] at hb; show w5.heap.size ≤ b; omega) h65 k65 j65); obtain ⟨k3, k4, k5⟩ := CE.out w65 K65.out.bel; (first | have L65 := Lib.hid ((lay_1 w5.drew _ SD (p1, p2, p3)).2.aside k65 (by simp [Value.ownBlock])) | have L65 := Lib.hid ((lay_2 w5.drew _ SD (p1, p2, p3)).2.aside k65 (by simp [Value.ownBlock])) | skip); clear h65 k65 j65)
                | (refine step_append_blks rfl (.tmp 65) (.tmp 67) w.heap.size (g.take c').length (gCells blkCell (g.take c')) [(p1, p2, p3)] (by first | exact K65.out.own | exact K65.out.own.alloc _) (by first | exact blk_litR _ (p1, p2, p3) | exact L65.out) rfl rfl (by go_simp) (by go_simp) (by first | exact Nat.le_trans SD K65.out.bel.size | exact Nat.le_trans (Nat.le_trans SD K65.out.bel.size) (blw_1 _ _).size) (by rw [HTQ.out]; show (c' + 1) * 40 ≤ 140737488355328; omega) ?_; intro v68 w68 h68 k68 j68; have K68 : Hid (ApK w w5.drew (g.take c' ++ [(p1, p2, p3)]) v68 w68) := Lib.hid (by first | exact ApK.next rfl rfl SD K65.out.bel K65.out.at_ h68 k68 j68 | exact ApK.next rfl rfl SD (K65.out.bel.trans ((blw_1 _ _).mono K65.out.bel.size)) K65.out.at_ h68 k68 j68); clear h68 k68 j68)
                | (refine step_append_blks rfl (.tmp 68) (.tmp 71) w.heap.size (g.take c' ++ [(p1, p2, p3)]).length (gCells blkCell (g.take c' ++ [(p1, p2, p3)])) (g.drop c') (by exact K68.out.own) (by exact (by simpa using X2.out.below K68.out.bel)) rfl rfl (by go_simp) (by go_simp) (by exact Nat.le_trans SD K68.out.bel.size) (by rw [List.length_append, HTQ.out, HDQ.out]; show (c' + 1 + (c' - c')) * 40 ≤ 140737488355328; omega) ?_; intro v72 w72 h72 k72 j72; have K72 : Hid (ApK w w5.drew (g.take c' ++ [(p1, p2, p3)] ++ g.drop c') v72 w72) := Lib.hid (ApK.next rfl rfl SD K68.out.bel K68.out.at_ h72 k72 j72); clear h72 k72 j72))
              all_goals
                go_wp2
                exact ⟨⟨k + 1, by omega, by go_num, Lib.hid (by rw [hnew.out]; exact K72.out.own), Lib.hid (BD.out.trans (K72.out.bel.mono SD))⟩, by simp [RowKit.intOf]; omega⟩
            · have gX2 : Hid (GRuns blkCell 3 wr (.slice (some ⟨gb, 0 + c' * 0 + q * 3, none⟩) 0 (c' - q)) (g.drop q)) := Lib.hid (by rw [hdr]; exact GRuns.none_ (by unfold maxLen; omega) (fun h => by cases h))
              simp only [Nat.zero_add, Nat.mul_zero] at gX2
              clear OQ EQ3 BQ
              go_wp2
              go_quiet (fail)
              revert nq
              intro nqa
              go_wp2
              go_quiet (fail)
              revert nq
              intro nqb
              go_wp2
              obtain ⟨w5, hw5⟩ : ∃ w5, w5 = (wr.drewN nqa).drewN nqb := ⟨_, rfl⟩
              have h4D : Below wr.heap.size wr w5.drew := by rw [hw5]; exact (below_draws (below_draws (Below.refl _ _) _) _).drew
              have X1 := Lib.hid (gX1.out.below h4D)
              have X2 := Lib.hid (gX2.out.below h4D)
              have BD : Hid (Below w.heap.size w w5.drew) := Lib.hid (B4.out.trans (h4D.mono B4.out.size))
              have SD : w.heap.size ≤ w5.drew.heap.size := BD.out.size
              have LB : bx < w5.drew.heap.size := Nat.lt_of_lt_of_le LTQ h4D.size
              have x3 : w5.drew.cell? ⟨bx, 0, none⟩ = some (.string p1) := by rw [hw5]; exact f3
              have x4 : w5.drew.cell? ⟨bx, 1, none⟩ = some (.string p2) := by rw [hw5]; exact f4
              have x5 : w5.drew.cell? ⟨bx, 2, none⟩ = some (.int .i64 p3) := by rw [hw5]; exact f5
              rw [← hw5]
              clear hw5 h4D gX1 gX2 f3 f4 f5 O4 B4
              have CE : Hid (∀ W, Below w5.drew.heap.size w5.drew W → W.cell? ⟨bx, 0, none⟩ = some (.string p1) ∧ W.cell? ⟨bx, 1, none⟩ = some (.string p2) ∧ W.cell? ⟨bx, 2, none⟩ = some (.int .i64 p3)) := Lib.hid (fun W hb => ⟨(hb.cell (p := ⟨bx, 0, none⟩) LB).trans x3, (hb.cell (p := ⟨bx, 1, none⟩) LB).trans x4, (hb.cell (p := ⟨bx, 2, none⟩) LB).trans x5⟩)
              obtain ⟨a3, a4, a5⟩ := CE.out _ (blw_1 w5.drew (.cells #[] 34))
              have b3 : (w5.alloc (.cells #[] 34)).cell? ⟨bx, 0, none⟩ = some (.string p1) := a3
              have b4 : (w5.alloc (.cells #[] 34)).cell? ⟨bx, 1, none⟩ = some (.string p2) := a4
              have b5 : (w5.alloc (.cells #[] 34)).cell? ⟨bx, 2, none⟩ = some (.int .i64 p3) := a5
              have d3 : (w5.alloc (.cells #[] 34)).drew.cell? ⟨bx, 0, none⟩ = some (.string p1) := a3
              have d4 : (w5.alloc (.cells #[] 34)).drew.cell? ⟨bx, 1, none⟩ = some (.string p2) := a4
              have d5 : (w5.alloc (.cells #[] 34)).drew.cell? ⟨bx, 2, none⟩ = some (.int .i64 p3) := a5
              have hmix : Tryz.prog.follows .mixedOrders = true := by kernel_rfl
              have tq : (g.take q).length = q := by rw [List.length_take, HM.out]; omega
              have dq : (g.drop q).length = q - q := by rw [List.length_drop, HM.out]
              have HTQ := Lib.hid tq; have HDQ := Lib.hid dq; clear tq dq
              have SD5 : w.heap.size ≤ w5.heap.size := SD
              go_region_law (first
                | (refine step_append_blks rfl (.tmp 61) (.tmp 64) w.heap.size 0 [] (g.take q) (by first | exact own_litB _ _ SD | exact (lay_1 _ _ SD (p1, p2, p3)).1 | exact (lay_2 _ _ SD (p1, p2, p3)).1) (by first | exact X1.out.below (blw_1 _ _) | exact X1.out.below (blw_2 _ _ _)) rfl rfl (by go_simp) (by go_simp) (by simp <;> omega) (by rw [HTQ.out]; omega) ?_; intro v65 w65 h65 k65 j65; have K65 : Hid (ApK w w5.drew (g.take q) v65 w65) := Lib.hid (by first | exact ApK.next (t := []) rfl rfl SD (blw_1 _ _) (fun b hb => by simp [Value.ownBlock] at hb; show w5.heap.size ≤ b; omega) h65 k65 j65 | exact ApK.next (t := []) rfl rfl SD (blw_2 _ _ _) (fun b hb => by simp [Value.ownBlock] at hb; show w5.heap.size ≤ b; omega) h65 k65 j65); obtain ⟨k3, k4, k5⟩ := CE.out w65 K65.out.bel; (first | have L65 := Lib.hid ((lay_1 w5.drew _ SD (p1, p2, p3)).2.aside k65 (by simp [Value.ownBlock])) | have L65 := Lib.hid ((lay_2 w5.drew _ SD (p1, p2, p3)).2.aside k65 (by simp [Value.ownBlock])) | skip); clear h65 k65 j65)
                | (refine step_append_blks rfl (.tmp 65) (.tmp 67) w.heap.size (g.take q).length (gCells blkCell (g.take q)) [(p1, p2, p3)] (by first | exact K65.out.own | exact K65.out.own.alloc _) (by first | exact blk_litR _ (p1, p2, p3) | exact L65.out) rfl rfl (by go_simp) (by go_simp) (by first | exact Nat.le_trans SD K65.out.bel.size | exact Nat.le_trans (Nat.le_trans SD K65.out.bel.size) (blw_1 _ _).size) (by rw [HTQ.out]; show (q + 1) * 40 ≤ 140737488355328; omega) ?_; intro v68 w68 h68 k68 j68; have K68 : Hid (ApK w w5.drew (g.take q ++ [(p1, p2, p3)]) v68 w68) := Lib.hid (by first | exact ApK.next rfl rfl SD K65.out.bel K65.out.at_ h68 k68 j68 | exact ApK.next rfl rfl SD (K65.out.bel.trans ((blw_1 _ _).mono K65.out.bel.size)) K65.out.at_ h68 k68 j68); clear h68 k68 j68)
                | (refine step_append_blks rfl (.tmp 68) (.tmp 71) w.heap.size (g.take q ++ [(p1, p2, p3)]).length (gCells blkCell (g.take q ++ [(p1, p2, p3)])) (g.drop q) (by exact K68.out.own) (by exact (by simpa using X2.out.below K68.out.bel)) rfl rfl (by go_simp) (by go_simp) (by exact Nat.le_trans SD K68.out.bel.size) (by rw [List.length_append, HTQ.out, HDQ.out]; show (q + 1 + (q - q)) * 40 ≤ 140737488355328; omega) ?_; intro v72 w72 h72 k72 j72; have K72 : Hid (ApK w w5.drew (g.take q ++ [(p1, p2, p3)] ++ g.drop q) v72 w72) := Lib.hid (ApK.next rfl rfl SD K68.out.bel K68.out.at_ h72 k72 j72); clear h72 k72 j72))
              all_goals
                go_wp2
                exact ⟨⟨k + 1, by omega, by go_num, Lib.hid (by rw [hnew.out]; exact K72.out.own), Lib.hid (BD.out.trans (K72.out.bel.mono SD))⟩, by simp [RowKit.intOf]; omega⟩
    · obtain rfl : k = n := by omega
      go_wp2
      go_ret
      exact ⟨_, rfl, HO.out, BW.out⟩
end Go.Proofs.YtnognphjndpgkaaGreatDoor

/- How long texts are together; blocks that are looked at. -/
namespace Go.Proofs.YtnognphjndpgkaaGreatDoor
open Go.RowKit Go.Shelf
set_option linter.unusedSimpArgs false
set_option linter.unusedVariables false

/-- Texts together. -/
def smT (l : List Blk) : Nat := (l.map (fun b => b.1.size + b.2.1.size)).sum
theorem smT_take {l : List Blk} (k : Nat) (x : Blk) (h : l[k]? = some x) : smT (l.take (k + 1)) = smT (l.take k) + (x.1.size + x.2.1.size) := by
  rw [List.take_add_one, h]; simp [smT]
theorem smT_mem (l : List Blk) : ∀ b ∈ l, b.1.size + b.2.1.size ≤ smT l := by
  induction l with
  | nil => simp
  | cons a l ih =>
    intro b hb
    have e : smT (a :: l) = a.1.size + a.2.1.size + smT l := by simp [smT]
    rw [e]
    rcases List.mem_cons.1 hb with rfl | hb
    · omega
    · have := ih b hb; omega
theorem smT_le {l : List Blk} {c : Nat} (h : ∀ b ∈ l, b.1.size ≤ c ∧ b.2.1.size ≤ c) (k : Nat) : smT (l.take k) ≤ k * (2 * c) := by
  induction k with
  | zero => simp [smT]
  | succ k ih =>
    cases hx : l[k]? with
    | none =>
      rw [List.take_add_one, hx]
      simp only [Option.toList_none, List.append_nil]
      rw [Nat.succ_mul]; omega
    | some x =>
      have := h x (List.mem_of_getElem? hx)
      rw [smT_take k x hx, Nat.succ_mul]; omega
/-- Texts as long as a text may be. -/
def szM (l : List Blk) : Prop := ∀ b ∈ l, b.1.size ≤ 140737488355328 ∧ b.2.1.size ≤ 140737488355328
/-- Blocks that are looked at. -/
def notGreat (l : List Blk) : Prop := l.length ≤ 500 ∧ ∀ b ∈ l, b.1.size ≤ 8000 ∧ b.2.1.size ≤ 8000
theorem notGreat.szB {l : List Blk} (h : notGreat l) : szB l := fun b hb => by have := h.2 b hb; omega
theorem notGreat.szL {l : List Blk} (h : notGreat l) : szL l := szL_of h.szB

theorem lit_blks (D : World) (L : List Blk) (h : L.length ≤ 1000) : GRuns blkCell 3 (D.alloc (.cells (gCells blkCell L).toArray 34)) (.slice (some ⟨D.heap.size, 0, none⟩) L.length L.length) L := by
  refine GRuns.of_own (base := 0) (n := L.length) blk_ln rfl ⟨gCells_len blk_ln L, .inr ⟨D.heap.size, L.length, (gCells blkCell L).toArray, rfl, Nat.zero_le _, heap_alloc_new D _, Nat.le_refl _, by unfold maxLen; omega, ?_, ?_⟩⟩
  · rw [List.size_toArray, gCells_len blk_ln]
  · show (gCells blkCell L).take (L.length * 3) = _
    rw [List.take_of_length_le (by rw [gCells_len blk_ln]; exact Nat.le_refl _)]
end Go.Proofs.YtnognphjndpgkaaGreatDoor

/- Rules, plain: a rule as a block whose number is its cost; rules each once, in order, with the least cost; what the document answers. -/
namespace Go.Proofs.YtnognphjndpgkaaGreatDoor
open Go.RowKit Go.Shelf

/-- The least cost of a key, 256 where there is none. -/
def lst (l : List Blk) (k : Blk) : Int := l.foldr (fun r m => if sameS r k then min r.2.2 m else m) 256
theorem lst_nil (k : Blk) : lst [] k = 256 := rfl
theorem lst_cons (a : Blk) (l : List Blk) (k : Blk) : lst (a :: l) k = if sameS a k then min a.2.2 (lst l k) else lst l k := rfl
theorem lst_le (l : List Blk) (k : Blk) : lst l k ≤ 256 := by
  induction l with
  | nil => rw [lst_nil]; omega
  | cons a l ih =>
    rw [lst_cons]
    split <;> omega
theorem lst_append (a b : List Blk) (k : Blk) : lst (a ++ b) k = min (lst a k) (lst b k) := by
  induction a with
  | nil => have := lst_le b k; rw [List.nil_append, lst_nil]; omega
  | cons x a ih =>
    rw [List.cons_append, lst_cons, lst_cons, ih]
    split <;> omega
theorem lst_none {l : List Blk} {k : Blk} (h : ∀ b ∈ l, ¬ sameS b k) : lst l k = 256 := by
  induction l with
  | nil => rfl
  | cons a l ih => rw [lst_cons, if_neg (h a (by simp)), ih (fun b hb => h b (by simp [hb]))]
/-- Costs may be. -/
def costB (l : List Blk) : Prop := ∀ b ∈ l, 1 ≤ b.2.2 ∧ b.2.2 ≤ 255
theorem srt_cons_lst {a : Blk} {l : List Blk} (h : Srt (a :: l)) : lst l a = 256 := lst_none (fun b hb e => (less_not (h.1 b hb)).2 (sameS_symm e))
theorem lst_below {a k : Blk} {l : List Blk} (h : Srt (a :: l)) (hk : lessB k a = true) : lst (a :: l) k = 256 :=
  lst_none (fun b hb => by
    rcases List.mem_cons.1 hb with rfl | hb
    · exact fun e => (less_not hk).2 (sameS_symm e)
    · exact fun e => (less_not (less_on k a b hk (h.1 b hb))).2 (sameS_symm e))
/-- Two rows in order that cost the same are the same. -/
theorem lst_ext {a b : List Blk} (ha : Srt a) (hb : Srt b) (pa : costB a) (pb : costB b) (h : ∀ k, lst a k = lst b k) : a = b := by
  induction a generalizing b with
  | nil =>
    cases b with
    | nil => rfl
    | cons y b =>
      exfalso
      have h1 := h y
      rw [lst_nil, lst_cons, if_pos ⟨rfl, rfl⟩, srt_cons_lst hb] at h1
      have := pb y (by simp)
      omega
  | cons x a ih =>
    cases b with
    | nil =>
      exfalso
      have h1 := h x
      rw [lst_nil, lst_cons, if_pos ⟨rfl, rfl⟩, srt_cons_lst ha] at h1
      have := pa x (by simp)
      omega
    | cons y b =>
      have px := pa x (by simp)
      have py := pb y (by simp)
      rcases less_one x y with ⟨h1, _, _⟩ | ⟨_, h1, _⟩ | ⟨_, _, h1⟩
      · exfalso
        have h2 := h x
        rw [lst_below hb h1, lst_cons, if_pos ⟨rfl, rfl⟩, srt_cons_lst ha] at h2
        omega
      · exfalso
        have h2 := h y
        rw [lst_below ha h1, lst_cons, if_pos ⟨rfl, rfl⟩, srt_cons_lst hb] at h2
        omega
      · have h2 := h x
        rw [lst_cons, if_pos ⟨rfl, rfl⟩, srt_cons_lst ha, lst_cons, if_pos (sameS_symm h1)] at h2
        have h3 : lst b x = 256 := lst_none (fun z hz e => (less_not (hb.1 z hz)).2 ⟨h1.1.symm.trans e.1.symm, h1.2.symm.trans e.2.symm⟩)
        rw [h3] at h2
        have exy : x = y := by
          obtain ⟨x1, x2, x3⟩ := x
          obtain ⟨y1, y2, y3⟩ := y
          obtain ⟨e1, e2⟩ := h1
          simp only at e1 e2 h2 px py
          subst e1 e2
          have : x3 = y3 := by omega
          subst this; rfl
        subst exy
        rw [ih ha.2 hb.2 (fun z hz => pa z (by simp [hz])) (fun z hz => pb z (by simp [hz])) (fun k => by
          have h5 := h k
          rw [lst_cons, lst_cons] at h5
          by_cases hk : sameS x k
          · have ea : lst a k = 256 := lst_none (fun z hz e => (less_not (ha.1 z hz)).2 ⟨hk.1.trans e.1.symm, hk.2.trans e.2.symm⟩)
            have eb : lst b k = 256 := lst_none (fun z hz e => (less_not (hb.1 z hz)).2 ⟨hk.1.trans e.1.symm, hk.2.trans e.2.symm⟩)
            rw [ea, eb]
          · rw [if_neg hk, if_neg hk] at h5
            exact h5)]

/-- A rule more among rules in order. -/
def insR (b : Blk) : List Blk → List Blk
  | [] => [b]
  | x :: t => if lessB x b = true then x :: insR b t else if sameS x b then (x.1, x.2.1, min x.2.2 b.2.2) :: t else b :: x :: t
theorem insR_lst (b : Blk) (l : List Blk) (k : Blk) (hb : b.2.2 ≤ 255) : lst (insR b l) k = min (lst l k) (if sameS b k then b.2.2 else 256) := by
  induction l with
  | nil =>
    rw [insR, lst_cons, lst_nil]
    split <;> omega
  | cons x t ih =>
    have hle := lst_le t k
    rw [insR]
    split
    · rw [lst_cons, lst_cons, ih]
      split <;> split <;> omega
    · split
      · rename_i h
        rw [lst_cons, lst_cons]
        by_cases hk : sameS x k
        · have hk' : sameS b k := ⟨h.1.symm.trans hk.1, h.2.symm.trans hk.2⟩
          rw [if_pos hk, if_pos hk', if_pos (show sameS (x.1, x.2.1, min x.2.2 b.2.2) k from hk)]
          simp only
          omega
        · have hk' : ¬ sameS b k := fun e => hk ⟨h.1.trans e.1, h.2.trans e.2⟩
          rw [if_neg hk, if_neg hk', if_neg (show ¬ sameS (x.1, x.2.1, min x.2.2 b.2.2) k from hk)]
          omega
      · rw [lst_cons, lst_cons]
        split <;> split <;> omega
theorem insR_cost {b : Blk} {l : List Blk} (hb : 1 ≤ b.2.2 ∧ b.2.2 ≤ 255) (hl : costB l) : costB (insR b l) := by
  induction l with
  | nil => intro z hz; rw [insR] at hz; obtain rfl : z = b := (by simpa using hz); exact hb
  | cons x t ih =>
    have hx := hl x (by simp)
    have ht : costB t := fun z hz => hl z (by simp [hz])
    rw [insR]
    split
    · intro z hz
      rcases List.mem_cons.1 hz with rfl | hz
      · exact hx
      · exact ih ht z hz
    · split
      · intro z hz
        rcases List.mem_cons.1 hz with rfl | hz
        · simp only; omega
        · exact ht z hz
      · intro z hz
        rcases List.mem_cons.1 hz with rfl | hz
        · exact hb
        · exact hl z hz
theorem insR_keys (b : Blk) (l : List Blk) : ∀ z ∈ insR b l, sameS z b ∨ ∃ y ∈ l, sameS z y := by
  induction l with
  | nil => intro z hz; rw [insR] at hz; obtain rfl : z = b := (by simpa using hz); exact .inl ⟨rfl, rfl⟩
  | cons x t ih =>
    intro z hz
    rw [insR] at hz
    split at hz
    · rcases List.mem_cons.1 hz with rfl | hz
      · exact .inr ⟨z, by simp, rfl, rfl⟩
      · rcases ih z hz with h | ⟨y, hy, h⟩
        · exact .inl h
        · exact .inr ⟨y, by simp [hy], h⟩
    · split at hz
      · rcases List.mem_cons.1 hz with rfl | hz
        · exact .inr ⟨x, by simp, rfl, rfl⟩
        · exact .inr ⟨z, by simp [hz], rfl, rfl⟩
      · rcases List.mem_cons.1 hz with rfl | hz
        · exact .inl ⟨rfl, rfl⟩
        · exact .inr ⟨z, hz, rfl, rfl⟩
theorem insR_srt {b : Blk} {l : List Blk} (hl : Srt l) : Srt (insR b l) := by
  induction l with
  | nil => rw [insR]; exact ⟨fun z hz => by simp at hz, trivial⟩
  | cons x t ih =>
    rw [insR]
    split
    · rename_i h
      refine ⟨fun z hz => ?_, ih hl.2⟩
      rcases insR_keys b t z hz with e | ⟨y, hy, e⟩
      · rw [less_key ⟨rfl, rfl⟩ e]; exact h
      · rw [less_key ⟨rfl, rfl⟩ e]; exact hl.1 y hy
    · split
      · refine ⟨fun z hz => ?_, hl.2⟩
        exact (less_key (a := (x.1, x.2.1, min x.2.2 b.2.2)) (c := x) ⟨rfl, rfl⟩ ⟨rfl, rfl⟩).trans (hl.1 z hz)
      · rename_i h1 h2
        have hbx : lessB b x = true := by
          rcases less_one x b with ⟨h, _, _⟩ | ⟨_, h, _⟩ | ⟨_, _, h⟩
          · exact absurd h h1
          · exact h
          · exact absurd h h2
        refine ⟨fun z hz => ?_, hl⟩
        rcases List.mem_cons.1 hz with rfl | hz
        · exact hbx
        · exact less_on b x z hbx (hl.1 z hz)
/-- Rules each once, in order, with the least cost. -/
def nrm (l : List Blk) : List Blk := l.foldl (fun out b => insR b out) []
theorem nrm_snoc (l : List Blk) (b : Blk) : nrm (l ++ [b]) = insR b (nrm l) := by simp [nrm]
theorem foldR_facts (l out : List Blk) (ho : Srt out) (hc : costB l) : Srt (l.foldl (fun out b => insR b out) out) ∧ (∀ k, lst (l.foldl (fun out b => insR b out) out) k = min (lst out k) (lst l k)) := by
  induction l generalizing out with
  | nil => exact ⟨ho, fun k => by have := lst_le out k; rw [lst_nil, List.foldl_nil]; omega⟩
  | cons b l ih =>
    obtain ⟨h1, h2⟩ := ih (insR b out) (insR_srt ho) (fun z hz => hc z (by simp [hz]))
    refine ⟨h1, fun k => ?_⟩
    have := lst_le l k
    rw [List.foldl_cons, h2 k, insR_lst _ _ _ (hc b (by simp)).2, lst_cons]
    split <;> omega
theorem foldR_cost (l out : List Blk) (ho : costB out) (hl : costB l) : costB (l.foldl (fun out b => insR b out) out) := by
  induction l generalizing out with
  | nil => exact ho
  | cons b l ih => exact ih (insR b out) (insR_cost (hl b (by simp)) ho) (fun z hz => hl z (by simp [hz]))
theorem nrm_srt {l : List Blk} (h : costB l) : Srt (nrm l) := (foldR_facts l [] trivial h).1
theorem nrm_lst {l : List Blk} (h : costB l) (k : Blk) : lst (nrm l) k = lst l k := by have := (foldR_facts l [] trivial h).2 k; have h2 := lst_le l k; rw [lst_nil] at this; unfold nrm; omega
theorem nrm_cost {l : List Blk} (h : costB l) : costB (nrm l) := foldR_cost l [] (fun z hz => by simp at hz) h
/-- What is in order, and costs as a list does, is that list made normal. -/
theorem nrm_uniq {l t : List Blk} (hl : costB l) (ht : Srt t) (pt : costB t) (h : ∀ k, lst t k = lst l k) : t = nrm l :=
  lst_ext ht (nrm_srt hl) pt (nrm_cost hl) (fun k => by rw [h k, nrm_lst hl])
theorem nrm_perm {l m : List Blk} (hl : costB l) (hm : costB m) (h : ∀ k, lst l k = lst m k) : nrm l = nrm m :=
  nrm_uniq hm (nrm_srt hl) (nrm_cost hl) (fun k => by rw [nrm_lst hl, h k])
theorem nrm_self {l : List Blk} (hl : costB l) (hs : Srt l) : nrm l = l := (nrm_uniq hl hs hl (fun _ => rfl)).symm
theorem nrm_swap {l m : List Blk} (hl : costB l) (hm : costB m) : nrm (l ++ m) = nrm (m ++ l) :=
  nrm_perm (fun z hz => by rcases List.mem_append.1 hz with h | h; exact hl z h; exact hm z h) (fun z hz => by rcases List.mem_append.1 hz with h | h; exact hm z h; exact hl z h) (fun k => by rw [lst_append, lst_append]; omega)

/-- Whether a rule may be. -/
def rchk (r : Blk) : Int := if chkS (r.1, r.2.1, 1) = 0 then (if r.2.2 < 1 ∨ 255 < r.2.2 then 2 else 0) else chkS (r.1, r.2.1, 1)
def rall : List Blk → Int
  | [] => 0
  | b :: l => if rchk b = 0 then rall l else rchk b
/-- Whether rules are normal. -/
def risS (l : List Blk) : Int := if rall l = 0 then (if ordB l then (if 4096 < l.length then 6 else 0) else 7) else rall l
def norE (l : List Blk) : Int := if rall l = 0 then (if 4096 < (nrm l).length then 6 else 0) else rall l
def norS (l : List Blk) : List Blk := if norE l = 0 then nrm l else []
/-- What a rule costs: 0 where there is none; its error. -/
def rfS (l : List Blk) (k : Blk) : Int := if risS l = 0 then (if lst l k = 256 then 0 else lst l k) else 0
theorem rchk_cost {r : Blk} (h : rchk r = 0) : 1 ≤ r.2.2 ∧ r.2.2 ≤ 255 := by
  unfold rchk at h
  split at h
  · split at h
    · cases h
    · omega
  · rename_i h0; exact absurd h h0
theorem rall_zero {l : List Blk} : rall l = 0 ↔ ∀ b ∈ l, rchk b = 0 := by
  induction l with
  | nil => simp [rall]
  | cons a l ih =>
    rw [rall]
    split
    · rename_i h
      rw [ih]
      constructor
      · intro h2 b hb
        rcases List.mem_cons.1 hb with rfl | hb
        · exact h
        · exact h2 b hb
      · exact fun h2 b hb => h2 b (by simp [hb])
    · rename_i h
      exact ⟨fun h2 => absurd h2 h, fun h2 => absurd (h2 a (by simp)) h⟩
theorem costB_of {l : List Blk} (h : rall l = 0) : costB l := fun b hb => rchk_cost (rall_zero.1 h b hb)
end Go.Proofs.YtnognphjndpgkaaGreatDoor

