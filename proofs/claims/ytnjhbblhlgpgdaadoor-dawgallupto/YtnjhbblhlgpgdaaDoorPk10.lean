/- Texts that several proofs of this seat share, one behind the other: ZLay ZRev MSlice ZRevAny YBegP. -/
import Derived.Test.YtnjhbblhlgpgdaaDoorPk9
import Derived.StillTailTactics
import Derived.BigRegion
import Derived.Deep.RegionHeld3
import Derived.Deep.RegionHeldLaw
import Derived.Deep.RegionLaw
import Derived.Shelf.SlicesQ.Reverse
import Derived.Shelf.SlGeneric
import Derived.Test.YtnjhbblhlgpgdaaDoorPk1
import Derived.Test.YtnjhbblhlgpgdaaDoorProg
import Derived.Test.YtnjhbblhlgpgdaaDoorPk4
/- builder.lay: a new frozen state. -/
namespace Go.Proofs.YtnjhbblhlgpgdaaDoor
open Go.RowKit Go.Shelf
attribute [local go_sem] Oper.semAt_some
set_option linter.unusedSimpArgs false
set_option linter.unusedVariables false

theorem fz_cells {w : World} {n0 g cap N : Nat} {F : List Fz} (h : w.ownsRow n0 114 5 (.slice (some ⟨g, 0, none⟩) N cap) N (gCells fzCell F)) {j : Nat} {f : Fz} (hj : F[j]? = some f) :
    w.cell? ⟨g, j * 5, none⟩ = some (.int .i32 (f.1.1 : Int)) ∧ w.cell? ⟨g, j * 5 + 1, none⟩ = some (.int .i32 f.1.2.1) ∧ w.cell? ⟨g, j * 5 + 2, none⟩ = some (.int .i32 (f.1.2.2 : Int)) ∧ w.cell? ⟨g, j * 5 + 3, none⟩ = some (.int .i32 (f.2.1 : Int)) ∧ w.cell? ⟨g, j * 5 + 4, none⟩ = some (.bool f.2.2) :=
  ⟨z_own_at fz_ln h hj (i := 0) rfl, z_own_at fz_ln h hj (i := 1) rfl, z_own_at fz_ln h hj (i := 2) rfl, z_own_at fz_ln h hj (i := 3) rfl, z_own_at fz_ln h hj (i := 4) rfl⟩

theorem z_cell_set_ne (w : World) (g j : Nat) (u : Value) (b o : Nat) (h : b ≠ g) : (w.setCell ⟨g, j, none⟩ u).cell? ⟨b, o, none⟩ = w.cell? ⟨b, o, none⟩ := World.cell?_of_block (Below.heap_setCell _ _ _ b h)
theorem z_two_first (w : World) (cs cs' : Array Value) (t t' : TypeId) (j : Nat) : ((w.alloc (.cells cs t)).alloc (.cells cs' t')).drew.cell? ⟨w.heap.size, j, none⟩ = cs[j]? := by
  show ((w.alloc (.cells cs t)).alloc (.cells cs' t')).cell? ⟨w.heap.size, j, none⟩ = cs[j]?
  exact cell_of_row _ _ _ _ _ (0, 0) ((Below.heap_alloc _ _ _ (by simp)).trans (heap_alloc_new w (.cells cs t)))
theorem z_two_second (w : World) (cs cs' : Array Value) (t t' : TypeId) (j : Nat) : ((w.alloc (.cells cs t)).alloc (.cells cs' t')).drew.cell? ⟨w.heap.size + 1, j, none⟩ = cs'[j]? := by
  show ((w.alloc (.cells cs t)).alloc (.cells cs' t')).cell? ⟨w.heap.size + 1, j, none⟩ = cs'[j]?
  have h := heap_alloc_new (w.alloc (.cells cs t)) (.cells cs' t')
  rw [World.size_alloc] at h
  exact cell_of_row _ _ _ _ _ (0, 0) h

set_option maxRecDepth 100000 in
set_option maxHeartbeats 8000000 in
theorem lay_any (q m n0 k : Nat) (D : DataW Unit) (W : List (Nat × Int)) (F : List Fz) (vw vf : Value) (w : World) (hB : Bld w q m n0 k D W F vw vf) (b t : Nat) (r : Int) (fb ft : Fz) (hfb : F[b]? = some fb) (hft : F[t]? = some ft) (hs : fb.2.1 + ft.2.1 ≤ 2000000) (hF : F.length ≤ 5000000) :
    Calls Tryd.prog 86 #[.pointer (some ⟨q, 0, none⟩), .agg #[.int .i32 (b : Int), .int .i32 r, .int .i32 (t : Int)]] w fun e w' => e = .returned (.int .i32 (F.length : Int)) ∧
      (∃ vf', Bld w' q m n0 k D W (F ++ [((b, r, t), fb.2.1 + ft.2.1, fb.2.2)]) vw vf') ∧ BFr q m n0 w w' := by
  obtain ⟨⟨x1, x2, x3⟩, x4, x5⟩ := fb
  obtain ⟨⟨y1, y2, y3⟩, y4, y5⟩ := ft
  simp only at hs ⊢
  have hbl := (List.getElem?_eq_some_iff.1 hfb).1
  have htl := (List.getElem?_eq_some_iff.1 hft).1
  obtain ⟨g, cap, evf, hg1, hg2, hg3, hg4, _⟩ := z_own_form hB.frz (by omega)
  subst evf
  have hfr := hB.frz
  unfold FzOwn at hfr
  obtain ⟨N, hN⟩ : ∃ z, F.length = z := ⟨_, rfl⟩
  rw [hN] at hB hfr hbl htl hF hg3 ⊢
  have hal := bel_one w (.cells #[.int .i32 (b : Int), .int .i32 r, .int .i32 (t : Int)] 112)
  have hB1 := hB.below hal
  have hfr1 := z_own_below hfr hal
  have e0 := heap_alloc_new w (.cells #[.int .i32 (b : Int), .int .i32 r, .int .i32 (t : Int)] 112)
  obtain ⟨w1, hw1⟩ : ∃ z, w.alloc (.cells #[.int .i32 (b : Int), .int .i32 r, .int .i32 (t : Int)] 112) = z := ⟨_, rfl⟩
  obtain ⟨p, hp⟩ : ∃ z, w.heap.size = z := ⟨_, rfl⟩
  rw [hw1] at hal hB1 hfr1 e0
  rw [hp] at e0
  have t0 : w1.cell? ⟨p, 0, none⟩ = some (.int .i32 (b : Int)) := by rw [cell_of_row _ _ _ _ _ (0, 0) e0]; rfl
  have t1 : w1.cell? ⟨p, 1, none⟩ = some (.int .i32 r) := by rw [cell_of_row _ _ _ _ _ (0, 0) e0]; rfl
  have t2 : w1.cell? ⟨p, 2, none⟩ = some (.int .i32 (t : Int)) := by rw [cell_of_row _ _ _ _ _ (0, 0) e0]; rfl
  have c1 := hB1.cells.2.1
  obtain ⟨b0, b1, b2, b3, b4⟩ := fz_cells hfr1 hfb
  obtain ⟨d0, d1, d2, d3, d4⟩ := fz_cells hfr1 hft
  simp only at b0 b1 b2 b3 b4 d0 d1 d2 d3 d4
  obtain ⟨s4, hs4⟩ : ∃ z, x4 + y4 = z := ⟨_, rfl⟩
  rw [hs4] at hs ⊢
  have hw4 : IntKind.i32.wrap ((x4 : Int) + (y4 : Int)) = (s4 : Int) := by rw [IntKind.wrap_i32]; omega
  have hwn : IntKind.i64.wrap (N : Int) = (N : Int) := by rw [IntKind.wrap_i64]; omega
  have hwm : IntKind.i32.wrap (N : Int) = (N : Int) := by rw [IntKind.wrap_i32]; omega
  have i1 : (b : Int) < (N : Int) := by omega
  have i2 : (t : Int) < (N : Int) := by omega
  have HB := Lib.hid hB; have HB1 := Lib.hid hB1; have HFR := Lib.hid hfr1; have HN := Lib.hid hN; have HW1 := Lib.hid hw1; have HP := Lib.hid hp; have HAL := Lib.hid hal; have HE0 := Lib.hid e0
  have HFB := Lib.hid hfb; have HFT := Lib.hid hft
  clear hB hfr hB1 hfr1 hN hw1 hp hal e0 hfb hft
  go_enter Tryd.func86, Tryd.ntmps86
  go_wp2
  rw [HW1.out, HP.out]
  go_region_held3 (fun wx => wx.cell? ⟨p, 0, none⟩ = some (.int .i32 (b : Int)) ∧ wx.cell? ⟨p, 1, none⟩ = some (.int .i32 r) ∧ wx.cell? ⟨p, 2, none⟩ = some (.int .i32 (t : Int)) ∧ wx.cell? ⟨q, 1, none⟩ = some (.slice (some ⟨g, 0, none⟩) N cap) ∧ wx.cell? ⟨g, b * 5, none⟩ = some (.int .i32 (x1 : Int)) ∧ wx.cell? ⟨g, b * 5 + 1, none⟩ = some (.int .i32 x2) ∧ wx.cell? ⟨g, b * 5 + 2, none⟩ = some (.int .i32 (x3 : Int)) ∧ wx.cell? ⟨g, b * 5 + 3, none⟩ = some (.int .i32 (x4 : Int)) ∧ wx.cell? ⟨g, b * 5 + 4, none⟩ = some (.bool x5) ∧ wx.cell? ⟨g, t * 5, none⟩ = some (.int .i32 (y1 : Int)) ∧ wx.cell? ⟨g, t * 5 + 1, none⟩ = some (.int .i32 y2) ∧ wx.cell? ⟨g, t * 5 + 2, none⟩ = some (.int .i32 (y3 : Int)) ∧ wx.cell? ⟨g, t * 5 + 3, none⟩ = some (.int .i32 (y4 : Int)) ∧ wx.cell? ⟨g, t * 5 + 4, none⟩ = some (.bool y5)) (first | go_keep) (fail)
  · obtain ⟨w2, hw2⟩ : ∃ z, ((w1.alloc (.cells #[.int .i32 (x1 : Int), .int .i32 x2, .int .i32 (x3 : Int), .int .i32 (x4 : Int), .bool x5] 114)).alloc (.cells #[.int .i32 (y1 : Int), .int .i32 y2, .int .i32 (y3 : Int), .int .i32 (y4 : Int), .bool y5] 114)).drew = z := ⟨_, rfl⟩
    have hb2 : Below w1.heap.size w1 w2 := by rw [← hw2]; exact (bel_two _ _ _).drew
    obtain ⟨p5, hp5⟩ : ∃ z, w1.heap.size = z := ⟨_, rfl⟩
    obtain ⟨p6, hp6⟩ : ∃ z, w1.heap.size + 1 = z := ⟨_, rfl⟩
    have l5 : w2.cell? ⟨p5, 3, none⟩ = some (.int .i32 (x4 : Int)) ∧ w2.cell? ⟨p5, 4, none⟩ = some (.bool x5) := by
      rw [← hw2, ← hp5]; exact ⟨z_two_first _ _ _ _ _ 3, z_two_first _ _ _ _ _ 4⟩
    have l6 : w2.cell? ⟨p6, 3, none⟩ = some (.int .i32 (y4 : Int)) := by
      rw [← hw2, ← hp6]; exact z_two_second _ _ _ _ _ 3
    rw [hw2, hp6, hp5]
    have s5 : w1.heap.size ≤ p5 ∧ w1.heap.size ≤ p6 := by omega
    clear hw2 hp5 hp6
    have n1 : p ≠ q := by have := HB.out.lt.1; have := HP.out; omega
    have n2 : p5 ≠ q := by have := HB1.out.lt.1; omega
    have n3 : p6 ≠ q := by have := HB1.out.lt.1; omega
    have n4 : p ≠ g := by have := HP.out; omega
    have n5 : p5 ≠ g := by have := HAL.out.size; omega
    have n6 : p6 ≠ g := by have := HAL.out.size; omega
    have ⟨l51, l52⟩ := l5
    have f1 := hb2.cell (p := ⟨q, 1, none⟩) (World.block_lt_of_cell? w1 _ c1) |>.trans c1
    have f2 := cell_keep hb2 t0
    have f3 := cell_keep hb2 t1
    have f4 := cell_keep hb2 t2
    have HB2 := Lib.hid (HB1.out.below hb2)
    have hfr2 : w2.ownsRow n0 114 5 (.slice (some ⟨g, 0, none⟩) N cap) N (gCells fzCell F) := z_own_below HFR.out hb2
    have HFR2 := Lib.hid hfr2
    have HBB : Hid (Below w.heap.size w w2) := Lib.hid (HAL.out.trans (hb2.mono HAL.out.size))
    clear c1 t0 t1 t2 b0 b1 b2 b3 b4 d0 d1 d2 d3 d4 hb2 l5
    have f5 : w2.cell? ⟨q, 1, none⟩ = some (.slice (some ⟨g, 0, none⟩) N cap) := f1
    obtain ⟨v', w5, hrun, hown5, hgr5, hblk5⟩ := append_one (P := Tryd.prog) fz_ln fz_one info_fz rfl (by decide) (by decide) Tryd.underlying115 w2.drew n0 _ N (gCells fzCell F) hfr2 ((b, r, t), s4, x5) (by have := HB2.out.lt.2.2; exact this) (by omega)
    have hl2 : w2.heap.size < w2.heap.size + 1 := by omega
    obtain ⟨L, hL⟩ : ∃ z, w2.heap.size = z := ⟨_, rfl⟩
    have hL' : w2.drew.heap.size = L := hL
    rw [hL'] at hrun hblk5
    have HRUN := Lib.hid hrun
    obtain ⟨a1, a2, a3, a4, a5, a6, a7⟩ := HB2.out.apart
    have hbx5 : w5.heap[q]? = some (.cells #[vw, .slice (some ⟨g, 0, none⟩) N cap, .map (some m)] 118) := (hgr5.block q (by have := HB2.out.lt.1; simp; omega) (fun e => a2 e.symm)).trans ((Below.heap_alloc _ _ _ HB2.out.lt.1).trans HB2.out.box)
    have g1 : w5.cell? ⟨q, 1, none⟩ = some (.slice (some ⟨g, 0, none⟩) N cap) := by rw [cell_of_row _ _ _ _ _ (0, 0) hbx5]; rfl
    have g2 : w5.frozen? ⟨q, 1, none⟩ = false := by simp [World.frozen?, hbx5]
    have hB2d : Bld w2.drew q m n0 k D W F vw (.slice (some ⟨g, 0, none⟩) N cap) := HB2.out.below (Below.refl _ _).drew
    have hpush := hB2d.pushFrz _ hgr5 (F2 := F ++ [((b, r, t), s4, x5)]) (by unfold FzOwn; rw [List.length_append, HN.out, gCells_snoc]; exact hown5)
    have HB5 : Hid (Bld (w5.setCell ⟨q, 1, none⟩ v') q m n0 k D W (F ++ [((b, r, t), s4, x5)]) vw v' ∧ BFr q m n0 w (w5.setCell ⟨q, 1, none⟩ v')) := Lib.hid ⟨hpush.1, ((BFr.of_below HBB.out HB.out.lt.2.2).trans (BFr.of_below (Below.refl _ _).drew (by have := HB2.out.lt.2.2; exact this))).trans hpush.2⟩
    have hpl : p < w1.heap.size := (Array.getElem?_eq_some_iff.1 HE0.out).1
    have hpl2 : p < w2.heap.size := World.block_lt_of_cell? w2 _ f2
    have hg5 : ∀ x, x < w2.heap.size → x ≠ g → w5.heap[x]? = w2.heap[x]? := fun x h1 h2 => (hgr5.block x (by simp; omega) (fun e => h2 (by simpa [Value.ownBlock] using e))).trans (Below.heap_alloc _ _ _ h1)
    have hpg : p ≠ g := n4
    have hp5g : p5 ≠ g := n5
    have hp6g : p6 ≠ g := n6
    have m0 : w5.cell? ⟨p, 0, none⟩ = some (.int .i32 (b : Int)) := (World.cell?_of_block (hg5 p hpl2 hpg)).trans f2
    have m1 : w5.cell? ⟨p, 1, none⟩ = some (.int .i32 r) := (World.cell?_of_block (hg5 p hpl2 hpg)).trans f3
    have m2 : w5.cell? ⟨p, 2, none⟩ = some (.int .i32 (t : Int)) := (World.cell?_of_block (hg5 p hpl2 hpg)).trans f4
    have m3 : w5.cell? ⟨p5, 3, none⟩ = some (.int .i32 (x4 : Int)) := (World.cell?_of_block (hg5 p5 (World.block_lt_of_cell? w2 _ l51) hp5g)).trans l51
    have m4 : w5.cell? ⟨p5, 4, none⟩ = some (.bool x5) := (World.cell?_of_block (hg5 p5 (World.block_lt_of_cell? w2 _ l51) hp5g)).trans l52
    have m5 : w5.cell? ⟨p6, 3, none⟩ = some (.int .i32 (y4 : Int)) := (World.cell?_of_block (hg5 p6 (World.block_lt_of_cell? w2 _ l6) hp6g)).trans l6
    obtain ⟨A', m', e'⟩ := z_own_slice hown5
    have k1 : (w2.alloc (.cells #[.int .i32 (b : Int), .int .i32 r, .int .i32 (t : Int), .int .i32 (s4 : Int), .bool x5] 114)).cell? ⟨q, 1, none⟩ = some (.slice (some ⟨g, 0, none⟩) N cap) := cell_keep (bel_one _ _) f1
    have k2 : (w2.alloc (.cells #[.int .i32 (b : Int), .int .i32 r, .int .i32 (t : Int), .int .i32 (s4 : Int), .bool x5] 114)).drew.cell? ⟨q, 1, none⟩ = some (.slice (some ⟨g, 0, none⟩) N cap) := k1
    subst e'
    clear hrun hown5 hgr5 hblk5 hfr2 a1 a2 a3 a4 a5 a6 a7 hl2 hpush hB2d hg5 hpg hp5g hp6g hpl hpl2
    go_wp2
    apply z_region_at (W := w5.setCell ⟨q, 1, none⟩ (.slice A' (N + 1) m'))
    · refine wp_region_held_drew (S := fun wx => wx.cell? ⟨p, 0, none⟩ = some (.int .i32 (b : Int)) ∧ wx.cell? ⟨p, 1, none⟩ = some (.int .i32 r) ∧ wx.cell? ⟨p, 2, none⟩ = some (.int .i32 (t : Int)) ∧ wx.cell? ⟨p5, 3, none⟩ = some (.int .i32 (x4 : Int)) ∧ wx.cell? ⟨p5, 4, none⟩ = some (.bool x5) ∧ wx.cell? ⟨p6, 3, none⟩ = some (.int .i32 (y4 : Int))) (by kernel_rfl) ⟨f2, f3, f4, l51, l52, l6⟩ (fun hS => ?_)
      change wpAnyH _ _ _ _ _ 19 _ _ _
      refine wpAnyH_take (i := 0) (v := .pointer (some ⟨q, 0, none⟩)) rfl (by kernel_rfl) (by kernel_rfl) (by kernel_rfl) (fun _ _ _ h => h) (Or.inl ⟨by rfl, fun wy hy => by obtain ⟨y0, y1, y2, y3, y4, y5⟩ := hy; go_simp⟩) hS ?_
      refine wpAnyH_take (i := 1) (v := .pointer (some ⟨q, 0, none⟩)) rfl (by kernel_rfl) (by kernel_rfl) (by kernel_rfl) (fun _ _ _ h => h) (Or.inl ⟨by rfl, fun wy hy => by obtain ⟨y0, y1, y2, y3, y4, y5⟩ := hy; go_simp⟩) hS ?_
      refine wpAnyH_take (i := 2) (v := .pointer (some ⟨q, 0, none⟩)) rfl (by kernel_rfl) (by kernel_rfl) (by kernel_rfl) (fun _ _ _ h => h) (Or.inl ⟨by rfl, fun wy hy => by obtain ⟨y0, y1, y2, y3, y4, y5⟩ := hy; go_simp⟩) hS ?_
      refine wpAnyH_take (i := 3) (v := .pointer (some ⟨q, 1, none⟩)) rfl (by kernel_rfl) (by kernel_rfl) (by kernel_rfl) (fun _ _ _ h => h) (Or.inl ⟨by rfl, fun wy hy => by obtain ⟨y0, y1, y2, y3, y4, y5⟩ := hy; go_simp⟩) hS ?_
      refine wpAnyH_take (i := 5) (v := .agg #[.int .i32 (b : Int), .int .i32 r, .int .i32 (t : Int)]) rfl (by kernel_rfl) (by kernel_rfl) (by kernel_rfl) (fun _ _ _ h => h) (Or.inl ⟨by rfl, fun wy hy => by obtain ⟨y0, y1, y2, y3, y4, y5⟩ := hy; go_simp⟩) hS ?_
      refine wpAnyH_take (i := 6) (v := .pointer (some ⟨p5, 3, none⟩)) rfl (by kernel_rfl) (by kernel_rfl) (by kernel_rfl) (fun _ _ _ h => h) (Or.inl ⟨by rfl, fun wy hy => by obtain ⟨y0, y1, y2, y3, y4, y5⟩ := hy; go_simp⟩) hS ?_
      refine wpAnyH_take (i := 7) (v := .int .i32 (x4 : Int)) rfl (by kernel_rfl) (by kernel_rfl) (by kernel_rfl) (fun _ _ _ h => h) (Or.inl ⟨by rfl, fun wy hy => by obtain ⟨y0, y1, y2, y3, y4, y5⟩ := hy; go_simp⟩) hS ?_
      refine wpAnyH_take (i := 8) (v := .pointer (some ⟨p6, 3, none⟩)) rfl (by kernel_rfl) (by kernel_rfl) (by kernel_rfl) (fun _ _ _ h => h) (Or.inl ⟨by rfl, fun wy hy => by obtain ⟨y0, y1, y2, y3, y4, y5⟩ := hy; go_simp⟩) hS ?_
      refine wpAnyH_take (i := 9) (v := .int .i32 (y4 : Int)) rfl (by kernel_rfl) (by kernel_rfl) (by kernel_rfl) (fun _ _ _ h => h) (Or.inl ⟨by rfl, fun wy hy => by obtain ⟨y0, y1, y2, y3, y4, y5⟩ := hy; go_simp⟩) hS ?_
      refine wpAnyH_take (i := 10) (v := .int .i32 (s4 : Int)) rfl (by kernel_rfl) (by kernel_rfl) (by kernel_rfl) (fun _ _ _ h => h) (Or.inl ⟨by rfl, fun wy hy => by obtain ⟨y0, y1, y2, y3, y4, y5⟩ := hy; go_simp⟩) hS ?_
      refine wpAnyH_take (i := 11) (v := .pointer (some ⟨p5, 4, none⟩)) rfl (by kernel_rfl) (by kernel_rfl) (by kernel_rfl) (fun _ _ _ h => h) (Or.inl ⟨by rfl, fun wy hy => by obtain ⟨y0, y1, y2, y3, y4, y5⟩ := hy; go_simp⟩) hS ?_
      refine wpAnyH_take (i := 12) (v := .bool x5) rfl (by kernel_rfl) (by kernel_rfl) (by kernel_rfl) (fun _ _ _ h => h) (Or.inl ⟨by rfl, fun wy hy => by obtain ⟨y0, y1, y2, y3, y4, y5⟩ := hy; go_simp⟩) hS ?_
      refine wpAnyH_take (i := 13) (v := .agg #[.int .i32 (b : Int), .int .i32 r, .int .i32 (t : Int), .int .i32 (s4 : Int), .bool x5]) rfl (by kernel_rfl) (by kernel_rfl) (by kernel_rfl) (fun _ _ _ h => h) (Or.inl ⟨by rfl, fun wy hy => by obtain ⟨y0, y1, y2, y3, y4, y5⟩ := hy; go_simp⟩) hS ?_
      refine wpAnyH_ready (rs := [4, 14]) (by kernel_rfl) (by simp) ?_
      refine AllReadyH.cons rfl (fun K hK => ?_) (AllReadyH.cons rfl (fun K hK => ?_) AllReadyH.nil)
      · go_simp
        refine hK.out _ _ hS (fun hS => ?_)
        refine wpAnyH_ready (rs := [14]) (by kernel_rfl) (by simp) ?_
        refine AllReadyH.cons rfl (fun K hK => ?_) AllReadyH.nil
        go_simp
        refine hK.out _ _ ⟨(cell_keep (bel_one _ _) hS.1), (cell_keep (bel_one _ _) hS.2.1), (cell_keep (bel_one _ _) hS.2.2.1), (cell_keep (bel_one _ _) hS.2.2.2.1), (cell_keep (bel_one _ _) hS.2.2.2.2.1), (cell_keep (bel_one _ _) hS.2.2.2.2.2)⟩ (fun hS => ?_)
        refine wpAnyH_ready (rs := [15]) (by kernel_rfl) (by simp) ?_
        refine AllReadyH.cons rfl (fun K hK => ?_) AllReadyH.nil
        refine xstep_append ?_ (.tmp 27) (.tmp 37) 115 _ _ _ _ ?_ HRUN.out ?_ ?_ ?_
        · rfl
        · rfl
        · rfl
        · rfl
        refine hK.out _ _ ⟨m0, m1, m2, m3, m4, m5⟩ (fun hS => ?_)
        refine wpAnyH_take (i := 16) (v := .pointer (some ⟨q, 0, none⟩)) rfl (by kernel_rfl) (by kernel_rfl) (by kernel_rfl) (fun _ _ _ h => h) (Or.inl ⟨by rfl, fun wy hy => by obtain ⟨y0, y1, y2, y3, y4, y5⟩ := hy; go_simp⟩) hS ?_
        refine wpAnyH_take (i := 17) (v := .pointer (some ⟨q, 1, none⟩)) rfl (by kernel_rfl) (by kernel_rfl) (by kernel_rfl) (fun _ _ _ h => h) (Or.inl ⟨by rfl, fun wy hy => by obtain ⟨y0, y1, y2, y3, y4, y5⟩ := hy; go_simp⟩) hS ?_
        refine wpAnyH_ready (rs := [18]) (by kernel_rfl) (by simp) ?_
        refine AllReadyH.cons rfl (fun K hK => ?_) AllReadyH.nil
        go_simp
        refine hK.out _ _ ⟨(z_cell_set_ne _ _ _ _ _ _ n1).trans m0, (z_cell_set_ne _ _ _ _ _ _ n1).trans m1, (z_cell_set_ne _ _ _ _ _ _ n1).trans m2, (z_cell_set_ne _ _ _ _ _ _ n2).trans m3, (z_cell_set_ne _ _ _ _ _ _ n2).trans m4, (z_cell_set_ne _ _ _ _ _ _ n3).trans m5⟩ (fun hS => ?_)
        exact wpAnyH_done (by kernel_rfl) ⟨rfl, rfl⟩ _
      · go_simp
        refine hK.out _ _ ⟨(cell_keep (bel_one _ _) hS.1), (cell_keep (bel_one _ _) hS.2.1), (cell_keep (bel_one _ _) hS.2.2.1), (cell_keep (bel_one _ _) hS.2.2.2.1), (cell_keep (bel_one _ _) hS.2.2.2.2.1), (cell_keep (bel_one _ _) hS.2.2.2.2.2)⟩ (fun hS => ?_)
        refine wpAnyH_ready (rs := [4]) (by kernel_rfl) (by simp) ?_
        refine AllReadyH.cons rfl (fun K hK => ?_) AllReadyH.nil
        go_simp
        refine hK.out _ _ hS (fun hS => ?_)
        refine wpAnyH_ready (rs := [15]) (by kernel_rfl) (by simp) ?_
        refine AllReadyH.cons rfl (fun K hK => ?_) AllReadyH.nil
        refine xstep_append ?_ (.tmp 27) (.tmp 37) 115 _ _ _ _ ?_ HRUN.out ?_ ?_ ?_
        · rfl
        · rfl
        · rfl
        · rfl
        refine hK.out _ _ ⟨m0, m1, m2, m3, m4, m5⟩ (fun hS => ?_)
        refine wpAnyH_take (i := 16) (v := .pointer (some ⟨q, 0, none⟩)) rfl (by kernel_rfl) (by kernel_rfl) (by kernel_rfl) (fun _ _ _ h => h) (Or.inl ⟨by rfl, fun wy hy => by obtain ⟨y0, y1, y2, y3, y4, y5⟩ := hy; go_simp⟩) hS ?_
        refine wpAnyH_take (i := 17) (v := .pointer (some ⟨q, 1, none⟩)) rfl (by kernel_rfl) (by kernel_rfl) (by kernel_rfl) (fun _ _ _ h => h) (Or.inl ⟨by rfl, fun wy hy => by obtain ⟨y0, y1, y2, y3, y4, y5⟩ := hy; go_simp⟩) hS ?_
        refine wpAnyH_ready (rs := [18]) (by kernel_rfl) (by simp) ?_
        refine AllReadyH.cons rfl (fun K hK => ?_) AllReadyH.nil
        go_simp
        refine hK.out _ _ ⟨(z_cell_set_ne _ _ _ _ _ _ n1).trans m0, (z_cell_set_ne _ _ _ _ _ _ n1).trans m1, (z_cell_set_ne _ _ _ _ _ _ n1).trans m2, (z_cell_set_ne _ _ _ _ _ _ n2).trans m3, (z_cell_set_ne _ _ _ _ _ _ n2).trans m4, (z_cell_set_ne _ _ _ _ _ _ n3).trans m5⟩ (fun hS => ?_)
        exact wpAnyH_done (by kernel_rfl) ⟨rfl, rfl⟩ _
    obtain ⟨w6, hw6⟩ : ∃ z, w5.setCell ⟨q, 1, none⟩ (.slice A' (N + 1) m') = z := ⟨_, rfl⟩
    rw [hw6] at HB5 ⊢
    have o1 := HB5.out.1.cells.2.1
    clear hw6 m0 m1 m2 m3 m4 m5 g1 g2 f1 f2 f3 f4 f5 k1 k2 l51 l52 l6 HRUN
    go_wp2
    go_ret
    exact ⟨rfl, ⟨_, HB5.out.1⟩, HB5.out.2⟩
  · obtain ⟨w2, hw2⟩ : ∃ z, ((w1.alloc (.cells #[.int .i32 (y1 : Int), .int .i32 y2, .int .i32 (y3 : Int), .int .i32 (y4 : Int), .bool y5] 114)).alloc (.cells #[.int .i32 (x1 : Int), .int .i32 x2, .int .i32 (x3 : Int), .int .i32 (x4 : Int), .bool x5] 114)).drew = z := ⟨_, rfl⟩
    have hb2 : Below w1.heap.size w1 w2 := by rw [← hw2]; exact (bel_two _ _ _).drew
    obtain ⟨p5, hp5⟩ : ∃ z, w1.heap.size + 1 = z := ⟨_, rfl⟩
    obtain ⟨p6, hp6⟩ : ∃ z, w1.heap.size = z := ⟨_, rfl⟩
    have l5 : w2.cell? ⟨p5, 3, none⟩ = some (.int .i32 (x4 : Int)) ∧ w2.cell? ⟨p5, 4, none⟩ = some (.bool x5) := by
      rw [← hw2, ← hp5]; exact ⟨z_two_second _ _ _ _ _ 3, z_two_second _ _ _ _ _ 4⟩
    have l6 : w2.cell? ⟨p6, 3, none⟩ = some (.int .i32 (y4 : Int)) := by
      rw [← hw2, ← hp6]; exact z_two_first _ _ _ _ _ 3
    rw [hw2, hp5, hp6]
    have s5 : w1.heap.size ≤ p5 ∧ w1.heap.size ≤ p6 := by omega
    clear hw2 hp5 hp6
    have n1 : p ≠ q := by have := HB.out.lt.1; have := HP.out; omega
    have n2 : p5 ≠ q := by have := HB1.out.lt.1; omega
    have n3 : p6 ≠ q := by have := HB1.out.lt.1; omega
    have n4 : p ≠ g := by have := HP.out; omega
    have n5 : p5 ≠ g := by have := HAL.out.size; omega
    have n6 : p6 ≠ g := by have := HAL.out.size; omega
    have ⟨l51, l52⟩ := l5
    have f1 := hb2.cell (p := ⟨q, 1, none⟩) (World.block_lt_of_cell? w1 _ c1) |>.trans c1
    have f2 := cell_keep hb2 t0
    have f3 := cell_keep hb2 t1
    have f4 := cell_keep hb2 t2
    have HB2 := Lib.hid (HB1.out.below hb2)
    have hfr2 : w2.ownsRow n0 114 5 (.slice (some ⟨g, 0, none⟩) N cap) N (gCells fzCell F) := z_own_below HFR.out hb2
    have HFR2 := Lib.hid hfr2
    have HBB : Hid (Below w.heap.size w w2) := Lib.hid (HAL.out.trans (hb2.mono HAL.out.size))
    clear c1 t0 t1 t2 b0 b1 b2 b3 b4 d0 d1 d2 d3 d4 hb2 l5
    have f5 : w2.cell? ⟨q, 1, none⟩ = some (.slice (some ⟨g, 0, none⟩) N cap) := f1
    obtain ⟨v', w5, hrun, hown5, hgr5, hblk5⟩ := append_one (P := Tryd.prog) fz_ln fz_one info_fz rfl (by decide) (by decide) Tryd.underlying115 w2.drew n0 _ N (gCells fzCell F) hfr2 ((b, r, t), s4, x5) (by have := HB2.out.lt.2.2; exact this) (by omega)
    have hl2 : w2.heap.size < w2.heap.size + 1 := by omega
    obtain ⟨L, hL⟩ : ∃ z, w2.heap.size = z := ⟨_, rfl⟩
    have hL' : w2.drew.heap.size = L := hL
    rw [hL'] at hrun hblk5
    have HRUN := Lib.hid hrun
    obtain ⟨a1, a2, a3, a4, a5, a6, a7⟩ := HB2.out.apart
    have hbx5 : w5.heap[q]? = some (.cells #[vw, .slice (some ⟨g, 0, none⟩) N cap, .map (some m)] 118) := (hgr5.block q (by have := HB2.out.lt.1; simp; omega) (fun e => a2 e.symm)).trans ((Below.heap_alloc _ _ _ HB2.out.lt.1).trans HB2.out.box)
    have g1 : w5.cell? ⟨q, 1, none⟩ = some (.slice (some ⟨g, 0, none⟩) N cap) := by rw [cell_of_row _ _ _ _ _ (0, 0) hbx5]; rfl
    have g2 : w5.frozen? ⟨q, 1, none⟩ = false := by simp [World.frozen?, hbx5]
    have hB2d : Bld w2.drew q m n0 k D W F vw (.slice (some ⟨g, 0, none⟩) N cap) := HB2.out.below (Below.refl _ _).drew
    have hpush := hB2d.pushFrz _ hgr5 (F2 := F ++ [((b, r, t), s4, x5)]) (by unfold FzOwn; rw [List.length_append, HN.out, gCells_snoc]; exact hown5)
    have HB5 : Hid (Bld (w5.setCell ⟨q, 1, none⟩ v') q m n0 k D W (F ++ [((b, r, t), s4, x5)]) vw v' ∧ BFr q m n0 w (w5.setCell ⟨q, 1, none⟩ v')) := Lib.hid ⟨hpush.1, ((BFr.of_below HBB.out HB.out.lt.2.2).trans (BFr.of_below (Below.refl _ _).drew (by have := HB2.out.lt.2.2; exact this))).trans hpush.2⟩
    have hpl : p < w1.heap.size := (Array.getElem?_eq_some_iff.1 HE0.out).1
    have hpl2 : p < w2.heap.size := World.block_lt_of_cell? w2 _ f2
    have hg5 : ∀ x, x < w2.heap.size → x ≠ g → w5.heap[x]? = w2.heap[x]? := fun x h1 h2 => (hgr5.block x (by simp; omega) (fun e => h2 (by simpa [Value.ownBlock] using e))).trans (Below.heap_alloc _ _ _ h1)
    have hpg : p ≠ g := n4
    have hp5g : p5 ≠ g := n5
    have hp6g : p6 ≠ g := n6
    have m0 : w5.cell? ⟨p, 0, none⟩ = some (.int .i32 (b : Int)) := (World.cell?_of_block (hg5 p hpl2 hpg)).trans f2
    have m1 : w5.cell? ⟨p, 1, none⟩ = some (.int .i32 r) := (World.cell?_of_block (hg5 p hpl2 hpg)).trans f3
    have m2 : w5.cell? ⟨p, 2, none⟩ = some (.int .i32 (t : Int)) := (World.cell?_of_block (hg5 p hpl2 hpg)).trans f4
    have m3 : w5.cell? ⟨p5, 3, none⟩ = some (.int .i32 (x4 : Int)) := (World.cell?_of_block (hg5 p5 (World.block_lt_of_cell? w2 _ l51) hp5g)).trans l51
    have m4 : w5.cell? ⟨p5, 4, none⟩ = some (.bool x5) := (World.cell?_of_block (hg5 p5 (World.block_lt_of_cell? w2 _ l51) hp5g)).trans l52
    have m5 : w5.cell? ⟨p6, 3, none⟩ = some (.int .i32 (y4 : Int)) := (World.cell?_of_block (hg5 p6 (World.block_lt_of_cell? w2 _ l6) hp6g)).trans l6
    obtain ⟨A', m', e'⟩ := z_own_slice hown5
    have k1 : (w2.alloc (.cells #[.int .i32 (b : Int), .int .i32 r, .int .i32 (t : Int), .int .i32 (s4 : Int), .bool x5] 114)).cell? ⟨q, 1, none⟩ = some (.slice (some ⟨g, 0, none⟩) N cap) := cell_keep (bel_one _ _) f1
    have k2 : (w2.alloc (.cells #[.int .i32 (b : Int), .int .i32 r, .int .i32 (t : Int), .int .i32 (s4 : Int), .bool x5] 114)).drew.cell? ⟨q, 1, none⟩ = some (.slice (some ⟨g, 0, none⟩) N cap) := k1
    subst e'
    clear hrun hown5 hgr5 hblk5 hfr2 a1 a2 a3 a4 a5 a6 a7 hl2 hpush hB2d hg5 hpg hp5g hp6g hpl hpl2
    go_wp2
    apply z_region_at (W := w5.setCell ⟨q, 1, none⟩ (.slice A' (N + 1) m'))
    · refine wp_region_held_drew (S := fun wx => wx.cell? ⟨p, 0, none⟩ = some (.int .i32 (b : Int)) ∧ wx.cell? ⟨p, 1, none⟩ = some (.int .i32 r) ∧ wx.cell? ⟨p, 2, none⟩ = some (.int .i32 (t : Int)) ∧ wx.cell? ⟨p5, 3, none⟩ = some (.int .i32 (x4 : Int)) ∧ wx.cell? ⟨p5, 4, none⟩ = some (.bool x5) ∧ wx.cell? ⟨p6, 3, none⟩ = some (.int .i32 (y4 : Int))) (by kernel_rfl) ⟨f2, f3, f4, l51, l52, l6⟩ (fun hS => ?_)
      change wpAnyH _ _ _ _ _ 19 _ _ _
      refine wpAnyH_take (i := 0) (v := .pointer (some ⟨q, 0, none⟩)) rfl (by kernel_rfl) (by kernel_rfl) (by kernel_rfl) (fun _ _ _ h => h) (Or.inl ⟨by rfl, fun wy hy => by obtain ⟨y0, y1, y2, y3, y4, y5⟩ := hy; go_simp⟩) hS ?_
      refine wpAnyH_take (i := 1) (v := .pointer (some ⟨q, 0, none⟩)) rfl (by kernel_rfl) (by kernel_rfl) (by kernel_rfl) (fun _ _ _ h => h) (Or.inl ⟨by rfl, fun wy hy => by obtain ⟨y0, y1, y2, y3, y4, y5⟩ := hy; go_simp⟩) hS ?_
      refine wpAnyH_take (i := 2) (v := .pointer (some ⟨q, 0, none⟩)) rfl (by kernel_rfl) (by kernel_rfl) (by kernel_rfl) (fun _ _ _ h => h) (Or.inl ⟨by rfl, fun wy hy => by obtain ⟨y0, y1, y2, y3, y4, y5⟩ := hy; go_simp⟩) hS ?_
      refine wpAnyH_take (i := 3) (v := .pointer (some ⟨q, 1, none⟩)) rfl (by kernel_rfl) (by kernel_rfl) (by kernel_rfl) (fun _ _ _ h => h) (Or.inl ⟨by rfl, fun wy hy => by obtain ⟨y0, y1, y2, y3, y4, y5⟩ := hy; go_simp⟩) hS ?_
      refine wpAnyH_take (i := 5) (v := .agg #[.int .i32 (b : Int), .int .i32 r, .int .i32 (t : Int)]) rfl (by kernel_rfl) (by kernel_rfl) (by kernel_rfl) (fun _ _ _ h => h) (Or.inl ⟨by rfl, fun wy hy => by obtain ⟨y0, y1, y2, y3, y4, y5⟩ := hy; go_simp⟩) hS ?_
      refine wpAnyH_take (i := 6) (v := .pointer (some ⟨p5, 3, none⟩)) rfl (by kernel_rfl) (by kernel_rfl) (by kernel_rfl) (fun _ _ _ h => h) (Or.inl ⟨by rfl, fun wy hy => by obtain ⟨y0, y1, y2, y3, y4, y5⟩ := hy; go_simp⟩) hS ?_
      refine wpAnyH_take (i := 7) (v := .int .i32 (x4 : Int)) rfl (by kernel_rfl) (by kernel_rfl) (by kernel_rfl) (fun _ _ _ h => h) (Or.inl ⟨by rfl, fun wy hy => by obtain ⟨y0, y1, y2, y3, y4, y5⟩ := hy; go_simp⟩) hS ?_
      refine wpAnyH_take (i := 8) (v := .pointer (some ⟨p6, 3, none⟩)) rfl (by kernel_rfl) (by kernel_rfl) (by kernel_rfl) (fun _ _ _ h => h) (Or.inl ⟨by rfl, fun wy hy => by obtain ⟨y0, y1, y2, y3, y4, y5⟩ := hy; go_simp⟩) hS ?_
      refine wpAnyH_take (i := 9) (v := .int .i32 (y4 : Int)) rfl (by kernel_rfl) (by kernel_rfl) (by kernel_rfl) (fun _ _ _ h => h) (Or.inl ⟨by rfl, fun wy hy => by obtain ⟨y0, y1, y2, y3, y4, y5⟩ := hy; go_simp⟩) hS ?_
      refine wpAnyH_take (i := 10) (v := .int .i32 (s4 : Int)) rfl (by kernel_rfl) (by kernel_rfl) (by kernel_rfl) (fun _ _ _ h => h) (Or.inl ⟨by rfl, fun wy hy => by obtain ⟨y0, y1, y2, y3, y4, y5⟩ := hy; go_simp⟩) hS ?_
      refine wpAnyH_take (i := 11) (v := .pointer (some ⟨p5, 4, none⟩)) rfl (by kernel_rfl) (by kernel_rfl) (by kernel_rfl) (fun _ _ _ h => h) (Or.inl ⟨by rfl, fun wy hy => by obtain ⟨y0, y1, y2, y3, y4, y5⟩ := hy; go_simp⟩) hS ?_
      refine wpAnyH_take (i := 12) (v := .bool x5) rfl (by kernel_rfl) (by kernel_rfl) (by kernel_rfl) (fun _ _ _ h => h) (Or.inl ⟨by rfl, fun wy hy => by obtain ⟨y0, y1, y2, y3, y4, y5⟩ := hy; go_simp⟩) hS ?_
      refine wpAnyH_take (i := 13) (v := .agg #[.int .i32 (b : Int), .int .i32 r, .int .i32 (t : Int), .int .i32 (s4 : Int), .bool x5]) rfl (by kernel_rfl) (by kernel_rfl) (by kernel_rfl) (fun _ _ _ h => h) (Or.inl ⟨by rfl, fun wy hy => by obtain ⟨y0, y1, y2, y3, y4, y5⟩ := hy; go_simp⟩) hS ?_
      refine wpAnyH_ready (rs := [4, 14]) (by kernel_rfl) (by simp) ?_
      refine AllReadyH.cons rfl (fun K hK => ?_) (AllReadyH.cons rfl (fun K hK => ?_) AllReadyH.nil)
      · go_simp
        refine hK.out _ _ hS (fun hS => ?_)
        refine wpAnyH_ready (rs := [14]) (by kernel_rfl) (by simp) ?_
        refine AllReadyH.cons rfl (fun K hK => ?_) AllReadyH.nil
        go_simp
        refine hK.out _ _ ⟨(cell_keep (bel_one _ _) hS.1), (cell_keep (bel_one _ _) hS.2.1), (cell_keep (bel_one _ _) hS.2.2.1), (cell_keep (bel_one _ _) hS.2.2.2.1), (cell_keep (bel_one _ _) hS.2.2.2.2.1), (cell_keep (bel_one _ _) hS.2.2.2.2.2)⟩ (fun hS => ?_)
        refine wpAnyH_ready (rs := [15]) (by kernel_rfl) (by simp) ?_
        refine AllReadyH.cons rfl (fun K hK => ?_) AllReadyH.nil
        refine xstep_append ?_ (.tmp 27) (.tmp 37) 115 _ _ _ _ ?_ HRUN.out ?_ ?_ ?_
        · rfl
        · rfl
        · rfl
        · rfl
        refine hK.out _ _ ⟨m0, m1, m2, m3, m4, m5⟩ (fun hS => ?_)
        refine wpAnyH_take (i := 16) (v := .pointer (some ⟨q, 0, none⟩)) rfl (by kernel_rfl) (by kernel_rfl) (by kernel_rfl) (fun _ _ _ h => h) (Or.inl ⟨by rfl, fun wy hy => by obtain ⟨y0, y1, y2, y3, y4, y5⟩ := hy; go_simp⟩) hS ?_
        refine wpAnyH_take (i := 17) (v := .pointer (some ⟨q, 1, none⟩)) rfl (by kernel_rfl) (by kernel_rfl) (by kernel_rfl) (fun _ _ _ h => h) (Or.inl ⟨by rfl, fun wy hy => by obtain ⟨y0, y1, y2, y3, y4, y5⟩ := hy; go_simp⟩) hS ?_
        refine wpAnyH_ready (rs := [18]) (by kernel_rfl) (by simp) ?_
        refine AllReadyH.cons rfl (fun K hK => ?_) AllReadyH.nil
        go_simp
        refine hK.out _ _ ⟨(z_cell_set_ne _ _ _ _ _ _ n1).trans m0, (z_cell_set_ne _ _ _ _ _ _ n1).trans m1, (z_cell_set_ne _ _ _ _ _ _ n1).trans m2, (z_cell_set_ne _ _ _ _ _ _ n2).trans m3, (z_cell_set_ne _ _ _ _ _ _ n2).trans m4, (z_cell_set_ne _ _ _ _ _ _ n3).trans m5⟩ (fun hS => ?_)
        exact wpAnyH_done (by kernel_rfl) ⟨rfl, rfl⟩ _
      · go_simp
        refine hK.out _ _ ⟨(cell_keep (bel_one _ _) hS.1), (cell_keep (bel_one _ _) hS.2.1), (cell_keep (bel_one _ _) hS.2.2.1), (cell_keep (bel_one _ _) hS.2.2.2.1), (cell_keep (bel_one _ _) hS.2.2.2.2.1), (cell_keep (bel_one _ _) hS.2.2.2.2.2)⟩ (fun hS => ?_)
        refine wpAnyH_ready (rs := [4]) (by kernel_rfl) (by simp) ?_
        refine AllReadyH.cons rfl (fun K hK => ?_) AllReadyH.nil
        go_simp
        refine hK.out _ _ hS (fun hS => ?_)
        refine wpAnyH_ready (rs := [15]) (by kernel_rfl) (by simp) ?_
        refine AllReadyH.cons rfl (fun K hK => ?_) AllReadyH.nil
        refine xstep_append ?_ (.tmp 27) (.tmp 37) 115 _ _ _ _ ?_ HRUN.out ?_ ?_ ?_
        · rfl
        · rfl
        · rfl
        · rfl
        refine hK.out _ _ ⟨m0, m1, m2, m3, m4, m5⟩ (fun hS => ?_)
        refine wpAnyH_take (i := 16) (v := .pointer (some ⟨q, 0, none⟩)) rfl (by kernel_rfl) (by kernel_rfl) (by kernel_rfl) (fun _ _ _ h => h) (Or.inl ⟨by rfl, fun wy hy => by obtain ⟨y0, y1, y2, y3, y4, y5⟩ := hy; go_simp⟩) hS ?_
        refine wpAnyH_take (i := 17) (v := .pointer (some ⟨q, 1, none⟩)) rfl (by kernel_rfl) (by kernel_rfl) (by kernel_rfl) (fun _ _ _ h => h) (Or.inl ⟨by rfl, fun wy hy => by obtain ⟨y0, y1, y2, y3, y4, y5⟩ := hy; go_simp⟩) hS ?_
        refine wpAnyH_ready (rs := [18]) (by kernel_rfl) (by simp) ?_
        refine AllReadyH.cons rfl (fun K hK => ?_) AllReadyH.nil
        go_simp
        refine hK.out _ _ ⟨(z_cell_set_ne _ _ _ _ _ _ n1).trans m0, (z_cell_set_ne _ _ _ _ _ _ n1).trans m1, (z_cell_set_ne _ _ _ _ _ _ n1).trans m2, (z_cell_set_ne _ _ _ _ _ _ n2).trans m3, (z_cell_set_ne _ _ _ _ _ _ n2).trans m4, (z_cell_set_ne _ _ _ _ _ _ n3).trans m5⟩ (fun hS => ?_)
        exact wpAnyH_done (by kernel_rfl) ⟨rfl, rfl⟩ _
    obtain ⟨w6, hw6⟩ : ∃ z, w5.setCell ⟨q, 1, none⟩ (.slice A' (N + 1) m') = z := ⟨_, rfl⟩
    rw [hw6] at HB5 ⊢
    have o1 := HB5.out.1.cells.2.1
    clear hw6 m0 m1 m2 m3 m4 m5 g1 g2 f1 f2 f3 f4 f5 k1 k2 l51 l52 l6 HRUN
    go_wp2
    go_ret
    exact ⟨rfl, ⟨_, HB5.out.1⟩, HB5.out.2⟩
end Go.Proofs.YtnjhbblhlgpgdaaDoor

/- slices.Reverse at edges: the library's contract at this program's numbers; a row's end turned round. -/
namespace Go.Proofs
open Go.Shelf
def Tryd.lays35e_ren : Go.Shelf.Ren := ⟨fun | 35 => 89 | n => n, fun | 22 => 80 | 23 => 91 | 3 => 3 | 4 => 4 | 0 => 0 | n => n, fun | n => n⟩
theorem Tryd.lays35e : Go.Proofs.SlLaysE0.n35 Tryd.prog Tryd.lays35e_ren := {
  mixed := by kernel_rfl
  f35 := ⟨Tryd.f89.name, by decide, Tryd.func89.trans (congrArg some (by kernel_rfl))⟩
  t0 := Tryd.underlying0
  a0 := Tryd.isAgg0
  z0 := Tryd.sizeOf0
  v0 := Tryd.zeroValue0
  t3 := Tryd.underlying3
  a3 := Tryd.isAgg3
  z3 := Tryd.sizeOf3
  v3 := Tryd.zeroValue3
  t4 := Tryd.underlying4
  a4 := Tryd.isAgg4
  z4 := Tryd.sizeOf4
  v4 := Tryd.zeroValue4
  t22 := Tryd.underlying80
  a22 := Tryd.isAgg80
  z22 := Tryd.sizeOf80
  v22 := Tryd.zeroValue80 }
end Go.Proofs
namespace Go.Proofs.YtnjhbblhlgpgdaaDoor
open Go.RowKit Go.Shelf Go.Sort
set_option linter.unusedSimpArgs false
set_option linter.unusedVariables false

theorem flat_ed (l : List Edg) (t : Nat) (ht : t < l.length * 3) : (flatK edCell 3 l.toArray)[t]! = (gCells edCell l)[t]'(by rw [gCells_len ed_ln]; exact ht) := by
  rw [get_flatK edCell 3 l.toArray t (by simpa using ht)]
  have hq : t / 3 < l.length := by omega
  have h3 := gCells_at ed_ln l (t / 3) (t % 3) l[t / 3] (List.getElem?_eq_getElem hq) (Nat.mod_lt _ (by decide))
  rw [show t / 3 * 3 + t % 3 = t by omega] at h3
  rw [getElem!_pos l.toArray (t / 3) (by simpa using hq)]
  have hm : t % 3 < (edCell l[t / 3]).length := by show t % 3 < 3; omega
  rw [List.getElem?_eq_getElem (by rw [gCells_len ed_ln]; exact ht), List.getElem?_eq_getElem hm] at h3
  rw [getElem!_pos _ (t % 3) (by simpa using hm)]
  simpa using (Option.some.inj h3).symm
theorem rev_end (base g n cap : Nat) (E0 E : List Edg) (w : World) (hn : n = E0.length + E.length) (h : w.ownsRow base 91 3 (.slice (some ⟨g, 0, none⟩) n cap) n (gCells edCell (E0 ++ E))) (hl : n ≤ 100000000000000) (A : Option Addr) (c : Nat) (hA : E ≠ [] → A = some ⟨g, E0.length * 3, none⟩) :
    Calls Tryd.prog 89 #[.slice A E.length c] w fun e w' => e = .returned (.tuple #[]) ∧ w'.ownsRow base 91 3 (.slice (some ⟨g, 0, none⟩) n cap) n (gCells edCell (E0 ++ E.reverse)) ∧ w.grownBy w' (some g) := by
  by_cases hE : E = []
  · subst hE
    refine (AnyQ.slices_Reverse_empty Tryd.lays35e A c w).mono ?_
    rintro e w' ⟨rfl, rfl⟩
    exact ⟨rfl, by simpa using h, World.grownBy.refl _ _⟩
  obtain rfl := hA hE
  have hH : HoldsK edCell 3 w g (E0.length * 3) E.toArray := by
    intro j hj
    have hj' : j < E.length * 3 := by simpa using hj
    refine ⟨?_, own_thaw h _⟩
    rw [flat_ed E j hj']
    rcases h.2 with ⟨h0, _⟩ | ⟨g', cap', cur, e1, hb, hg, h1, h2, h4, h5⟩
    · cases h0
    · simp only [Value.slice.injEq, Option.some.injEq, Addr.mk.injEq] at e1
      obtain ⟨⟨rfl, _⟩, _, rfl⟩ := e1
      rw [cell_of_row w g _ cur _ (0, 0) hg]
      have e2 : (cur.toList.take (n * 3))[E0.length * 3 + j]? = (gCells edCell (E0 ++ E))[E0.length * 3 + j]? := by rw [h5]
      rw [List.getElem?_take, if_pos (by omega), gCells_append, List.getElem?_append_right (by rw [gCells_len ed_ln]; omega), gCells_len ed_ln, Nat.add_sub_cancel_left, List.getElem?_eq_getElem (l := gCells edCell E) (by rw [gCells_len ed_ln]; exact hj')] at e2
      simpa using e2
  have c0 := AnyQ.slices_Reverse Tryd.lays35e 3 Tryd.isAgg91 Tryd.sizeOf91 edCell (fun _ => rfl) ed_one g (E0.length * 3) c E.toArray w hH (by simp; omega)
  rw [show (E.toArray).size = E.length by simp] at c0
  refine Calls.mono c0 ?_
  rintro e w' ⟨rfl, k, rfl⟩
  have hrv : E.toArray.reverse = E.reverse.toArray := by simp
  rw [hrv]
  have hblk : ∀ b, b ≠ g → (putRowK edCell 3 (Sort.ahead w k) g (E0.length * 3) E.reverse.toArray).heap[b]? = w.heap[b]? := fun b hb => by
    show (Array.modify _ _ _)[b]? = _
    rw [Array.getElem?_modify, if_neg (fun e => hb e.symm)]
    rfl
  have hsz : (putRowK edCell 3 (Sort.ahead w k) g (E0.length * 3) E.reverse.toArray).heap.size = w.heap.size := by
    show (Array.modify _ _ _).size = _
    rw [Array.size_modify]
    rfl
  refine ⟨rfl, ?_, ⟨rfl, rfl, rfl, Nat.le_of_eq hsz.symm, fun b hb hne => hblk b (fun e => hne (by rw [e]))⟩⟩
  rcases h.2 with ⟨h0, _⟩ | ⟨g', cap', cur, e1, hb, hg, h1, h2, h4, h5⟩
  · cases h0
  · simp only [Value.slice.injEq, Option.some.injEq, Addr.mk.injEq] at e1
    obtain ⟨⟨rfl, _⟩, _, rfl⟩ := e1
    refine ⟨by rw [gCells_len ed_ln, List.length_append, List.length_reverse, hn], .inr ⟨g, cap, putCells id (E0.length * 3) (flatK edCell 3 E.reverse.toArray) cur, rfl, hb, ?_, h1, h2, by simp [putCells, h4], ?_⟩⟩
    · show (Array.modify w.heap g _)[g]? = _
      rw [Array.getElem?_modify, if_pos rfl, hg]
      rfl
    · apply List.ext_getElem?
      intro i
      rw [List.getElem?_take]
      by_cases hi : i < n * 3
      · rw [if_pos hi]
        have hic : i < cur.size := by rw [h4]; have := Nat.mul_le_mul_right 3 h1; omega
        have e2 : (cur.toList.take (n * 3))[i]? = (gCells edCell (E0 ++ E))[i]? := by rw [h5]
        rw [List.getElem?_take, if_pos hi] at e2
        have e3 : (putCells id (E0.length * 3) (flatK edCell 3 E.reverse.toArray) cur).toList[i]? = some (if E0.length * 3 ≤ i ∧ i < E0.length * 3 + E.length * 3 then (flatK edCell 3 E.reverse.toArray)[i - E0.length * 3]! else cur[i]) := by
          rw [Array.getElem?_toList]
          simp only [putCells, Array.getElem?_mapIdx, Array.getElem?_eq_getElem hic, Option.map_some, size_flatK, List.size_toArray, List.length_reverse, id]
        rw [e3, gCells_append]
        by_cases hlt : i < E0.length * 3
        · rw [if_neg (by omega), List.getElem?_append_left (by rw [gCells_len ed_ln]; exact hlt)]
          rw [gCells_append, List.getElem?_append_left (by rw [gCells_len ed_ln]; exact hlt)] at e2
          rw [← e2, Array.getElem?_toList, Array.getElem?_eq_getElem hic]
        · rw [if_pos (by omega), List.getElem?_append_right (by rw [gCells_len ed_ln]; omega), gCells_len ed_ln, flat_ed E.reverse (i - E0.length * 3) (by rw [List.length_reverse]; omega)]
          rw [List.getElem?_eq_getElem (by rw [gCells_len ed_ln, List.length_reverse]; omega)]
      · rw [if_neg hi, List.getElem?_eq_none (by rw [gCells_len ed_ln, List.length_append, List.length_reverse]; omega)]
end Go.Proofs.YtnjhbblhlgpgdaaDoor

/- Parts of a slice of runes, whatever its form. -/
namespace Go.Proofs.YtnjhbblhlgpgdaaDoor
open Go.RowKit
set_option linter.unusedSimpArgs false
set_option linter.unusedVariables false

theorem runs_sliced {w : World} {A : Option Addr} {n c : Nat} {x : List Int} (h : Runs w (.slice A n c) x) (hn : x.length = n) (k m : Nat) (hk : k ≤ m) (hm : m ≤ n) : Runs w (sliced A k m c 1) ((x.drop k).take (m - k)) := by
  obtain ⟨A', c', e, hlc, ⟨hcm, hc0⟩, hx⟩ := h
  obtain ⟨rfl, rfl⟩ : A = A' ∧ c = c' := by simp at e; exact ⟨e.1, e.2.2⟩
  have hl : ((x.drop k).take (m - k)).length = m - k := by rw [List.length_take, List.length_drop]; omega
  refine ⟨if c = k then A else A.map (·.add (k * 1)), c - k, by rw [hl]; rfl, by omega, ⟨by omega, fun e2 => ?_⟩, fun h0 => ?_⟩
  · split at e2
    · omega
    · cases A with
      | none => have := hc0 rfl; omega
      | some a => cases e2
  · rw [hl] at h0
    obtain ⟨b, o, eA, hb, hc⟩ := hx (by omega)
    subst eA
    refine ⟨b, o + k, ?_, hb, fun j hj => ?_⟩
    · rw [if_neg (by omega)]
      simp [Addr.add]
    · rw [hl] at hj
      rw [Nat.add_assoc, hc (k + j) (by omega)]
      simp only [List.getD_eq_getElem?_getD, List.getElem?_take, List.getElem?_drop]
      rw [if_pos (by omega)]
/-- Where a part of a slice begins. -/
def cutA (A : Option Addr) (c k : Nat) : Option Addr := if c = k then A else A.map (·.add (k * 1))
theorem size32 (w : World) : (sizeOf (Tryd.prog.elem 63)).run Tryd.prog w = .ok 1 w := by kernel_rfl
theorem elem32 : Tryd.prog.underlying 63 = some (.slice (Tryd.prog.elem 63)) := by kernel_rfl
theorem slice_lh32 {w : World} {A : Option Addr} {n c : Nat} {x : List Int} (h : Runs w (.slice A n c) x) (hn : x.length = n) (k m : Nat) (hk : k ≤ m) (hm : m ≤ n) :
    (Instr.slice 63 (.slice A n c) (some (.int .i64 (k : Int))) (some (.int .i64 (m : Int))) none).run Tryd.prog w = .ok (.slice (cutA A c k) (m - k) (c - k)) w ∧ Runs w (.slice (cutA A c k) (m - k) (c - k)) ((x.drop k).take (m - k)) := by
  have hr := runs_sliced h hn k m hk hm
  obtain ⟨A', c', e, hlc, _, _⟩ := h
  obtain ⟨rfl, rfl⟩ : A = A' ∧ c = c' := by simp at e; exact ⟨e.1, e.2.2⟩
  refine ⟨?_, hr⟩
  rw [run_slice_lh (ht := elem32) (h0 := by omega) (h1 := by omega) (h2 := by omega), size32]
  simp [Result.andThen, sliced, cutA]
theorem slice_h32 {w : World} {A : Option Addr} {n c : Nat} {x : List Int} (h : Runs w (.slice A n c) x) (hn : x.length = n) (m : Nat) (hm : m ≤ n) :
    (Instr.slice 63 (.slice A n c) none (some (.int .i64 (m : Int))) none).run Tryd.prog w = .ok (.slice (cutA A c 0) m c) w ∧ Runs w (.slice (cutA A c 0) m c) (x.take m) := by
  have hr := runs_sliced h hn 0 m (Nat.zero_le _) hm
  rw [List.drop_zero, Nat.sub_zero] at hr
  obtain ⟨A', c', e, hlc, _, _⟩ := h
  obtain ⟨rfl, rfl⟩ : A = A' ∧ c = c' := by simp at e; exact ⟨e.1, e.2.2⟩
  refine ⟨?_, hr⟩
  rw [run_slice_h (ht := elem32) (h0 := by omega) (h2 := by omega), size32]
  simp [Result.andThen, sliced, cutA]
theorem slice_l32 {w : World} {A : Option Addr} {n c : Nat} {x : List Int} (h : Runs w (.slice A n c) x) (hn : x.length = n) (k : Nat) (hk : k ≤ n) :
    (Instr.slice 63 (.slice A n c) (some (.int .i64 (k : Int))) none none).run Tryd.prog w = .ok (.slice (cutA A c k) (n - k) (c - k)) w ∧ Runs w (.slice (cutA A c k) (n - k) (c - k)) (x.drop k) := by
  have hr := runs_sliced h hn k n hk (Nat.le_refl _)
  rw [List.take_of_length_le (by rw [List.length_drop]; omega)] at hr
  refine ⟨?_, hr⟩
  rw [run_slice_l (ht := elem32) (h0 := by omega) (h1 := by omega), size32]
  simp [Result.andThen, sliced, cutA]
end Go.Proofs.YtnjhbblhlgpgdaaDoor

/- A row's end cut off and turned round, whatever its form. -/
namespace Go.Proofs.YtnjhbblhlgpgdaaDoor
open Go.RowKit Go.Shelf
set_option linter.unusedSimpArgs false
set_option linter.unusedVariables false

def cutE (A : Option Addr) (c k : Nat) : Option Addr := if c = k then A else A.map (·.add (k * 3))
theorem sizeEd (w : World) : (sizeOf (Tryd.prog.elem 80)).run Tryd.prog w = .ok 3 w := by kernel_rfl
theorem elemEd : Tryd.prog.underlying 80 = some (.slice (Tryd.prog.elem 80)) := by kernel_rfl
theorem slice_ed (w : World) (A : Option Addr) (n c k : Nat) (hk : k ≤ n) (hn : n ≤ c) (hc : c ≤ maxLen) :
    (Instr.slice 80 (.slice A n c) (some (.int .i64 (k : Int))) none none).run Tryd.prog w = .ok (.slice (cutE A c k) (n - k) (c - k)) w := by
  unfold maxLen at hc
  rw [run_slice_l (ht := elemEd) (h0 := by omega) (h1 := by omega), sizeEd]
  simp [Result.andThen, sliced, cutE]
theorem rev_any (base n cap : Nat) (E0 E : List Edg) (A : Option Addr) (w : World) (hn : n = E0.length + E.length) (h : w.ownsRow base 91 3 (.slice A n cap) n (gCells edCell (E0 ++ E))) (hl : n ≤ 100000000000000) (c : Nat) :
    Calls Tryd.prog 89 #[.slice (cutE A cap E0.length) E.length c] w fun e w' => e = .returned (.tuple #[]) ∧ w'.ownsRow base 91 3 (.slice A n cap) n (gCells edCell (E0 ++ E.reverse)) ∧ w.grownBy w' (Value.slice A n cap).ownBlock := by
  by_cases hE : E = []
  · subst hE
    refine (AnyQ.slices_Reverse_empty Tryd.lays35e _ c w).mono ?_
    rintro e w' ⟨rfl, rfl⟩
    exact ⟨rfl, by simpa using h, World.grownBy.refl _ _⟩
  · have hp := List.length_pos_iff.2 hE
    obtain ⟨g, cap', e, h1, h2, h3, h4, _⟩ := z_own_form h (by omega)
    simp only [Value.slice.injEq] at e
    obtain ⟨rfl, _, rfl⟩ := e
    refine (rev_end base g n cap E0 E w hn h hl _ c (fun _ => ?_)).mono ?_
    · unfold cutE
      rw [if_neg (by omega)]
      unfold Addr.add
      simp <;> omega
    · rintro e w' ⟨rfl, r1, r2⟩
      exact ⟨rfl, r1, r2⟩
end Go.Proofs.YtnjhbblhlgpgdaaDoor

/- Words in order, plain: just those between two places begin so. -/
namespace Go.Proofs.YtnjhbblhlgpgdaaDoor
open Go.RowKit Go.Shelf

theorem pre_between (s v c : List UInt8) (h1 : ¬ v < s) (h2 : ¬ c < v) (h3 : s <+: c) : s <+: v := by
  induction s generalizing v c with
  | nil => exact List.nil_prefix
  | cons h t ih =>
    obtain ⟨c', rfl⟩ : ∃ c', c = h :: c' := by
      obtain ⟨q, hq⟩ := h3
      exact ⟨t ++ q, hq.symm⟩
    have h3' : t <+: c' := by
      obtain ⟨q, hq⟩ := h3
      exact ⟨q, by simpa using hq⟩
    cases v with
    | nil => exact absurd (List.nil_lt_cons h t) h1
    | cons k v =>
      rw [List.cons_lt_cons_iff] at h1 h2
      have e : k = h := by
        rcases UInt8.lt_or_eq_of_le (UInt8.not_lt.1 (fun hh => h1 (.inl hh))) with q | q
        · exact absurd (.inl q) h2
        · exact q.symm
      subst e
      have := ih v c' (fun hh => h1 (.inr ⟨rfl, hh⟩)) (fun hh => h2 (.inr ⟨rfl, hh⟩)) h3'
      obtain ⟨q, hq⟩ := this
      exact ⟨q, by rw [← hq]; rfl⟩
theorem lt_snoc (s : List UInt8) (b : UInt8) : s < s ++ [b] := by
  induction s with
  | nil => exact List.nil_lt_cons b []
  | cons h t ih => exact List.cons_lt_cons_iff.2 (.inr ⟨rfl, ih⟩)
theorem not_lt_pre {s v : List UInt8} (h : s <+: v) : ¬ v < s := by
  obtain ⟨q, rfl⟩ := h
  induction s with
  | nil => exact List.not_lt_nil _
  | cons a t ih =>
    intro hh
    rcases List.cons_lt_cons_iff.1 hh with h | ⟨_, h⟩
    · exact UInt8.lt_irrefl a h
    · exact ih h
theorem preK_iff (s x : ByteArray) : preK s x = true ↔ s.data.toList <+: x.data.toList := by
  unfold preK Lib.hasPrefix
  exact List.isPrefixOf_iff_prefix
theorem ltK_no {a b : ByteArray} : ltK a b = false ↔ ¬ a.data.toList < b.data.toList := by
  rw [← Bool.not_eq_true, ltK_iff]
/-- Just those between the places begin so. -/
theorem beg_just {l : List Wrd} (hs : SrtW l) (s : ByteArray) (i : Nat) (v : Wrd) (hv : l[i]? = some v) : preK s v.1 = (decide ((i : Int) ≥ (bgF l s : Int)) && decide ((i : Int) < (bgF l s : Int) + (bgN l s : Int))) := by
  obtain ⟨h1, h2⟩ := bgF_srt hs s
  obtain ⟨t1, t2⟩ := tw_at (fun x : Wrd => preK s x.1) (l.drop (bgF l s))
  have hN : ((l.drop (bgF l s)).takeWhile (fun x : Wrd => preK s x.1)).length = bgN l s := rfl
  rw [hN] at t1 t2
  rcases Nat.lt_or_ge i (bgF l s) with h | h
  · have h3 := h1 i v h hv
    have h4 : preK s v.1 = false := by
      cases hp : preK s v.1 with
      | false => rfl
      | true => exact absurd ((ltK_iff _ _).1 h3) (not_lt_pre ((preK_iff _ _).1 hp))
    rw [h4, decide_eq_false (by omega)]; rfl
  · rw [decide_eq_true (show (i : Int) ≥ (bgF l s : Int) by omega), Bool.true_and]
    rcases Nat.lt_or_ge i (bgF l s + bgN l s) with h' | h'
    · rw [decide_eq_true (by omega)]
      exact t1 (i - bgF l s) v (by omega) (by rw [List.getElem?_drop, show bgF l s + (i - bgF l s) = i by omega]; exact hv)
    · rw [decide_eq_false (by omega)]
      have hil := (List.getElem?_eq_some_iff.1 hv).1
      have hq : l[bgF l s + bgN l s]? = some l[bgF l s + bgN l s] := List.getElem?_eq_getElem (by omega)
      have h5 := t2 l[bgF l s + bgN l s] (by rw [List.getElem?_drop]; exact hq)
      have h6 := h2 _ _ (by omega) hq
      cases hp : preK s v.1 with
      | false => rfl
      | true =>
        have h7 : ¬ v.1.data.toList < (l[bgF l s + bgN l s]).1.data.toList := by
          rcases Nat.lt_or_eq_of_le h' with h8 | h8
          · have := (ltK_not (srtW_at hs h8 hq hv)).1
            exact ltK_no.1 this
          · have e : l[bgF l s + bgN l s] = v := by
              have : l[bgF l s + bgN l s]? = some v := by rw [h8]; exact hv
              rw [hq] at this; exact Option.some.inj this
            rw [e]; exact List.lt_irrefl _
        have h8 := pre_between _ _ _ (ltK_no.1 h6) h7 ((preK_iff _ _).1 hp)
        rw [(preK_iff _ _).2 h8] at h5
        cases h5
/-- With a byte more no others. -/
theorem beg_more {l : List Wrd} (hs : SrtW l) {s s2 : ByteArray} {b : UInt8} (e : s2.data.toList = s.data.toList ++ [b]) : bgF l s ≤ bgF l s2 ∧ bgF l s2 + bgN l s2 ≤ bgF l s + bgN l s := by
  obtain ⟨h1, h2⟩ := bgF_srt hs s
  obtain ⟨k1, k2⟩ := bgF_srt hs s2
  have hlt : ltK s s2 = true := by rw [ltK_iff, e]; exact lt_snoc _ _
  have hx : bgF l s ≤ bgF l s2 := by
    rcases Nat.lt_or_ge (bgF l s2) (bgF l s) with h | h
    · have hb : bgF l s2 < l.length := Nat.lt_of_lt_of_le h (bgF_le l s)
      have hq : l[bgF l s2]? = some l[bgF l s2] := List.getElem?_eq_getElem hb
      have h3 := k2 _ _ (Nat.le_refl _) hq
      rw [ltK_on (h1 _ _ h hq) hlt] at h3
      cases h3
    · exact h
  refine ⟨hx, ?_⟩
  have hz : bgF l s2 ≤ bgF l s + bgN l s := by
    rcases Nat.lt_or_ge (bgF l s + bgN l s) (bgF l s2) with h | h
    · exfalso
      have hb : bgF l s + bgN l s < l.length := Nat.lt_of_lt_of_le h (bgF_le l s2)
      have hq : l[bgF l s + bgN l s]? = some l[bgF l s + bgN l s] := List.getElem?_eq_getElem hb
      have h3 := k1 _ _ h hq
      have h4 := h2 _ _ (by omega) hq
      have h5 := pre_between _ _ _ (ltK_no.1 h4) (fun hh => by
        have := (ltK_iff _ _).1 h3
        exact List.lt_irrefl _ (List.lt_trans this hh)) (show s.data.toList <+: s2.data.toList from by rw [e]; exact List.prefix_append _ _)
      have h6 := beg_just hs s _ _ hq
      rw [(preK_iff _ _).2 h5, decide_eq_false (show ¬ ((bgF l s + bgN l s : Nat) : Int) < (bgF l s : Int) + (bgN l s : Int) by omega), Bool.and_false] at h6
      cases h6
    · exact h
  rcases Nat.eq_zero_or_pos (bgN l s2) with h | h
  · omega
  · have hle := bgN_le l s2
    have hq : l[bgF l s2 + bgN l s2 - 1]? = some l[bgF l s2 + bgN l s2 - 1] := List.getElem?_eq_getElem (by omega)
    have h6 := beg_just hs s2 _ _ hq
    rw [decide_eq_true (show ((bgF l s2 + bgN l s2 - 1 : Nat) : Int) ≥ (bgF l s2 : Int) by omega), decide_eq_true (show ((bgF l s2 + bgN l s2 - 1 : Nat) : Int) < (bgF l s2 : Int) + (bgN l s2 : Int) by omega)] at h6
    have h7 := (preK_iff _ _).1 h6
    rw [e] at h7
    have h8 : preK s (l[bgF l s2 + bgN l s2 - 1]).1 = true := (preK_iff _ _).2 ((List.prefix_append _ _).trans h7)
    have h9 := beg_just hs s _ _ hq
    rw [h8] at h9
    have h10 := h9.symm
    rw [Bool.and_eq_true, decide_eq_true_eq, decide_eq_true_eq] at h10
    omega
/-- The first ones stand ahead of those that are left out. -/
theorem bst_out {l : List Wrd} (hs : SrtW l) (k : Nat) (last w : Wrd) (hl : last ∈ (bst l).take k) (hw : w ∈ l) (hno : ∀ x ∈ (bst l).take k, x.1 ≠ w.1) : ¬ ltF w last := by
  have hp := bst_ltF hs
  rw [← List.take_append_drop k (bst l)] at hp
  have hm : w ∈ bst l := (bst_perm l).symm.subset hw
  rw [← List.take_append_drop k (bst l)] at hm
  rcases List.mem_append.1 hm with h | h
  · exact absurd rfl (hno w h)
  · exact ltF_not ((List.pairwise_append.1 hp).2.2 last hl w h)
theorem bst_keys {l : List Wrd} (hs : SrtW l) (k i : Nat) (x : Wrd) (hx : ((bst l).take k)[i]? = some x) : ¬ ∃ y ∈ ((bst l).take k).take i, y.1 = x.1 := by
  rintro ⟨y, hy, e⟩
  have hnd : (bst l).Pairwise (fun x y : Wrd => x.1 ≠ y.1) := by
    have key : ∀ l : List Wrd, SrtW l → l.Pairwise (fun x y : Wrd => x.1 ≠ y.1) := by
      intro l
      induction l with
      | nil => intro _; exact List.Pairwise.nil
      | cons a l ih => intro hs; exact List.pairwise_cons.2 ⟨fun y hy => (ltK_not (hs.1 y hy)).2, ih hs.2⟩
    exact ((bst_perm l).pairwise_iff (fun h => h.symm)).2 (key l hs)
  have hnd2 : ((bst l).take k).Pairwise (fun x y : Wrd => x.1 ≠ y.1) := hnd.sublist (List.take_sublist _ _)
  obtain ⟨j, hj⟩ := List.getElem?_of_mem hy
  rw [List.getElem?_take] at hj
  split at hj
  · rename_i hji
    obtain ⟨p1, rfl⟩ := List.getElem?_eq_some_iff.1 hj
    obtain ⟨p2, rfl⟩ := List.getElem?_eq_some_iff.1 hx
    exact List.pairwise_iff_getElem.1 hnd2 j i p1 p2 hji e
  · cases hj
theorem bst_next {l : List Wrd} (hs : SrtW l) (k i : Nat) (y x : Wrd) (hy : ((bst l).take k)[i]? = some y) (hx : ((bst l).take k)[i + 1]? = some x) : ltF y x := by
  have hp : ((bst l).take k).Pairwise ltF := (bst_ltF hs).sublist (List.take_sublist _ _)
  obtain ⟨p1, rfl⟩ := List.getElem?_eq_some_iff.1 hy
  obtain ⟨p2, rfl⟩ := List.getElem?_eq_some_iff.1 hx
  exact List.pairwise_iff_getElem.1 hp i (i + 1) p1 p2 (by omega)
end Go.Proofs.YtnjhbblhlgpgdaaDoor

