/- Texts that several proofs of this seat share, one behind the other: ZTails ZRep ZMetM. -/
import Derived.Test.YtljaibhhkjapmaaDoorPk6
import Derived.Test.YtljaibhhkjapmaaDoorPk7
import Derived.Test.YtljaibhhkjapmaaDoorPk9
import Derived.Deep.RegionHeld3
import Derived.Test.YtljaibhhkjapmaaDoorShelf
import Derived.Laws.CopyOwn
/- builder.tails: the tails of a frozen state, handed on. -/
namespace Go.Proofs.YtljaibhhkjapmaaDoor
open Go.RowKit Go.Shelf
attribute [local go_sem] Oper.semAt_some
set_option linter.unusedSimpArgs false
set_option linter.unusedVariables false

def tlEnc (t : Tl) : Array Value := #[.agg #[.int .i32 (t.1 : Int), .int .i32 t.2.1, .int .i32 (t.2.2 : Int)]]
/-- The frozen states as they lie, below n1. -/
structure FrzAt (w : World) (q N : Nat) (F : List Fz) : Prop where
  lt : q < w.heap.size
  len : F.length = N
  at_ : ∃ g cap, w.cell? ⟨q, 1, none⟩ = some (.slice (some ⟨g, 0, none⟩) N cap) ∧ g < w.heap.size ∧ N ≤ cap ∧ cap ≤ maxLen ∧ ∀ j f, F[j]? = some f → w.cell? ⟨g, j * 5, none⟩ = some (.int .i32 (f.1.1 : Int)) ∧ w.cell? ⟨g, j * 5 + 1, none⟩ = some (.int .i32 f.1.2.1) ∧ w.cell? ⟨g, j * 5 + 2, none⟩ = some (.int .i32 (f.1.2.2 : Int)) ∧ w.cell? ⟨g, j * 5 + 3, none⟩ = some (.int .i32 (f.2.1 : Int)) ∧ w.cell? ⟨g, j * 5 + 4, none⟩ = some (.bool f.2.2)
theorem FrzAt.of_bld {w : World} {q m n0 k : Nat} {D : DataW Unit} {W : List (Nat × Int)} {F : List Fz} {vw vf : Value} (h : Bld w q m n0 k D W F vw vf) (hF : 0 < F.length) : FrzAt w q F.length F := by
  have hfr := h.frz
  unfold FzOwn at hfr
  obtain ⟨g, cap, e, h1, h2, h3, h4, _⟩ := z_own_form hfr hF
  subst e
  exact ⟨h.lt.1, rfl, g, cap, h.cells.2.1, h2, h3, h4, fun j f hj => fz_cells hfr hj⟩
theorem FrzAt.below {w w' : World} {q N : Nat} {F : List Fz} (h : FrzAt w q N F) (hb : Below w.heap.size w w') : FrzAt w' q N F := by
  obtain ⟨h1, h2, g, cap, h3, h4, h5, h6, h7⟩ := h
  refine ⟨Nat.lt_of_lt_of_le h1 hb.size, h2, g, cap, cell_keep hb h3, Nat.lt_of_lt_of_le h4 hb.size, h5, h6, fun j f hj => ?_⟩
  obtain ⟨a, b, c, d, e⟩ := h7 j f hj
  exact ⟨cell_keep hb a, cell_keep hb b, cell_keep hb c, cell_keep hb d, cell_keep hb e⟩
/-- What a round keeps: all below n1, two boxes, and each tail that lies. -/
structure KeepT (n1 B1 B2 : Nat) (W W' : World) : Prop where
  bel : Below n1 W W'
  b1 : W'.heap[B1]? = W.heap[B1]?
  b2 : W'.heap[B2]? = W.heap[B2]?
  tail : ∀ (k : Nat) (cs : Array Value) (fz : Nat × Nat), n1 ≤ k → W.heap[k]? = some (.cells cs 139 fz) → W'.heap[k]? = some (.cells cs 139 fz)
theorem KeepT.refl (n1 B1 B2 : Nat) (W : World) : KeepT n1 B1 B2 W W := ⟨Below.refl _ _, rfl, rfl, fun _ _ _ _ h => h⟩
theorem KeepT.trans {n1 B1 B2 : Nat} {A B C : World} (h : KeepT n1 B1 B2 A B) (k : KeepT n1 B1 B2 B C) : KeepT n1 B1 B2 A C := ⟨h.bel.trans k.bel, k.b1.trans h.b1, k.b2.trans h.b2, fun i cs fz hi hh => k.tail i cs fz hi (h.tail i cs fz hi hh)⟩
theorem KeepT.of_below {n1 B1 B2 : Nat} {A B : World} (h : Below A.heap.size A B) (hn : n1 ≤ A.heap.size) (h1 : B1 < A.heap.size) (h2 : B2 < A.heap.size) : KeepT n1 B1 B2 A B := ⟨h.mono hn, h.block B1 h1, h.block B2 h2, fun k cs fz _ hh => (h.block k (Array.getElem?_eq_some_iff.1 hh).1).trans hh⟩
theorem keepT_b {n1 B1 B2 : Nat} {w : World} (hn : n1 ≤ w.heap.size) (h1 : B1 < w.heap.size) (h2 : B2 < w.heap.size) (W : World) (l : Nat) (o o' : Obj) (hl : w.heap.size ≤ l) (h : W.heap[l]? = some o) (k1 : o.isCells = false) (k2 : o.isWalk = false) : KeepT n1 B1 B2 W (W.putObj l o') :=
  ⟨belowK_b hn W l o o' hl h k1 k2, World.putObj_heap_other (fun e => by omega), World.putObj_heap_other (fun e => by omega), fun k cs fz _ hh => (World.putObj_heap_other (fun e => by subst e; rw [h] at hh; cases hh; cases k1)).trans hh⟩
theorem tails_any (q n : Nat) (w : World) : Calls Tryd.prog 101 #[.pointer (some ⟨q, 0, none⟩), .int .i32 (n : Int)] w fun e w' => e = .returned (.func (.func 117) #[] #[.pointer (some ⟨w.heap.size + 1, 0, none⟩), .pointer (some ⟨w.heap.size, 0, none⟩)]) ∧
    w' = (w.alloc (.cells #[.pointer (some ⟨q, 0, none⟩)] 134)).alloc (.cells #[.int .i32 (n : Int)] 21) := by
  go_enter Tryd.func101, Tryd.ntmps101
  go_wp2
  go_ret
  exact ⟨rfl, rfl⟩

set_option maxRecDepth 100000 in
set_option maxHeartbeats 8000000 in
theorem tails_in (n : Nat) (hn : 1 ≤ n) (lp Bn Bb n1 q N M : Nat) (F : List Fz) (R : List Rst) (hz : FzOk M F R) (hN5 : N ≤ 5000000) (w0 : World) (hw0 : w0.heap.size = n1) (hF : FrzAt w0 q N F) (x : Nat) (hx : x < N) (J : List Tl → World → Prop)
    (W : World) (hn1 : n1 ≤ W.heap.size) (hW0 : Below n1 w0 W) (h1n : n1 ≤ Bn) (h1b : n1 ≤ Bb) (hnb : Bn ≠ Bb) (hBn : Boxed W Bn 21 (.int .i32 (x : Int))) (hBb : Boxed W Bb 134 (.pointer (some ⟨q, 0, none⟩)))
    (hJ : ∀ pre W1 W2, J pre W1 → W.heap.size ≤ W1.heap.size → W1.grownBy W2 (some Bn) → J pre W2)
    (hY : ∀ pre t W1, J pre W1 → pre ++ [t] <+: tls F x → W.heap.size ≤ W1.heap.size → YieldAt Fence.wide (n - 1) Tryd.prog lp (tlEnc t) W1 fun e W' =>
      e = .returned (.bool true) ∧ J (pre ++ [t]) W' ∧ KeepT n1 Bn Bb W1 W' ∧ W1.heap.size ≤ W'.heap.size)
    (h0 : J [] W) :
    CallsIn Fence.wide n Tryd.prog 117 #[.func (.yield lp) #[] #[], .pointer (some ⟨Bn, 0, none⟩), .pointer (some ⟨Bb, 0, none⟩)] W fun e W' => (∃ v, e = .returned v) ∧ J (tls F x) W' := by
  obtain ⟨hq1, hFN, g, cap, f1, hgl, hcap, hcm, hfz⟩ := hF
  obtain ⟨L, hL⟩ : ∃ z, tls F x = z := ⟨_, rfl⟩
  rw [hL] at hY ⊢
  have HY := Lib.hid hY; have HJ := Lib.hid hJ; have HL := Lib.hid hL; have HZ := Lib.hid hz; have HFN := Lib.hid hFN; have HFZ := Lib.hid hfz; have HW0 := Lib.hid hw0
  have HF1 := Lib.hid f1
  clear hY hJ hL hz hFN hfz hw0 f1
  refine callsIn_of_wp Tryd.func117 rfl trivial ?_ rfl
  simp only [Tryd.ntmps117, List.size_toArray, List.length_cons, List.length_nil, Nat.reduceAdd, Nat.reduceSub, Array.replicate_succ, Array.replicate_zero, List.push_toArray, List.append_toArray, List.nil_append, List.cons_append]
  gi_wp2
  gi_loopw [] (fun wr => ∃ (y : Nat) (pre : List Tl), y < N ∧ Hid (pre ++ tls F y = L) ∧ Hid (J pre wr) ∧ Hid (Below n1 w0 wr) ∧ Hid (Boxed wr Bn 21 (.int .i32 (y : Int))) ∧ Hid (Boxed wr Bb 134 (.pointer (some ⟨q, 0, none⟩))) ∧ Hid (W.heap.size ≤ wr.heap.size))
    (fun wr => match wr.cell? ⟨Bn, 0, none⟩ with | some v => (intOf v).toNat | none => 0)
  case atStart => exact ⟨x, [], hx, Lib.hid (by simpa using HL.out), Lib.hid h0, Lib.hid hW0, Lib.hid hBn, Lib.hid hBb, Lib.hid (Nat.le_refl _)⟩
  case round =>
    clear h0 hBn hBb
    obtain ⟨y, pre, hyN, HP, HJs, HB0, HBn, HBb, HSZ⟩ := hrel
    have d0 := HBn.out.cell
    have HM0 := Lib.hid d0
    have d1 := HBb.out.cell
    by_cases h2 : y ≤ 1
    · have hL : L = pre := by rw [← HP.out, tls_less h2, List.append_nil]
      have HE : Hid (J L wr) := Lib.hid (by rw [hL]; exact HJs.out)
      clear hL
      have hy : y = 0 ∨ y = 1 := by omega
      rcases hy with rfl | rfl
      · gi_wp2
        go_end0
        exact ⟨⟨_, rfl⟩, HE.out⟩
      · gi_wp2
        go_end0
        exact ⟨⟨_, rfl⟩, HE.out⟩
    · obtain ⟨⟨⟨b, r, t⟩, fk, fe⟩, hf⟩ : ∃ f, F[y]? = some f := ⟨_, List.getElem?_eq_getElem (by rw [HFN.out]; exact hyN)⟩
      have hst := tls_step HZ.out (by omega) hf
      obtain ⟨t1, t2, t3, _, _⟩ := HZ.out.tl y _ (by omega) hf
      simp only at hst t1 t2 t3
      obtain ⟨c0, c1, c2, _, _⟩ := HFZ.out y _ hf
      simp only at c0 c1 c2
      have hB := HB0.out
      have e0 := (hB.cell (p := ⟨g, y * 5, none⟩) (show g < n1 by have := HW0.out; omega)).trans c0
      have e1 := (hB.cell (p := ⟨g, y * 5 + 1, none⟩) (show g < n1 by have := HW0.out; omega)).trans c1
      have e2 := (hB.cell (p := ⟨g, y * 5 + 2, none⟩) (show g < n1 by have := HW0.out; omega)).trans c2
      have eq := (hB.cell (p := ⟨q, 1, none⟩) (show q < n1 by have := HW0.out; omega)).trans HF1.out
      have HST := Lib.hid hst
      clear hf hst hB c0 c1 c2
      have y0 : ((y : Int) != 0) = true := by simp; omega
      have y1 : ((y : Int) != 1) = true := by simp; omega
      have y2 : ¬ (y : Int) = 0 := by omega
      have y3 : ¬ (y : Int) = 1 := by omega
      have y4 : (y : Int) < (N : Int) := by omega
      have y5 : (0 : Int) ≤ (y : Int) := by omega
      gi_wp2
      refine wpIn_wide.2 ?_
      apply z_region_at (W := (wr.alloc (.cells #[.int .i32 (b : Int), .int .i32 r, .int .i32 (t : Int)] 139)).drew)
      · go_region_held3 (fun wx => wx.cell? ⟨Bb, 0, none⟩ = some (.pointer (some ⟨q, 0, none⟩)) ∧ wx.cell? ⟨Bn, 0, none⟩ = some (.int .i32 (y : Int)) ∧ wx.cell? ⟨q, 1, none⟩ = some (.slice (some ⟨g, 0, none⟩) N cap) ∧ wx.cell? ⟨g, y * 5, none⟩ = some (.int .i32 (b : Int)) ∧ wx.cell? ⟨g, y * 5 + 1, none⟩ = some (.int .i32 r) ∧ wx.cell? ⟨g, y * 5 + 2, none⟩ = some (.int .i32 (t : Int))) (first | go_keep) (fail)
        all_goals exact ⟨rfl, rfl⟩
      have hal := (bel_one wr (.cells #[.int .i32 (b : Int), .int .i32 r, .int .i32 (t : Int)] 139)).drew
      have a0 := heap_alloc_new wr (.cells #[.int .i32 (b : Int), .int .i32 r, .int .i32 (t : Int)] 139)
      obtain ⟨w2, hw2⟩ : ∃ z, (wr.alloc (.cells #[.int .i32 (b : Int), .int .i32 r, .int .i32 (t : Int)] 139)).drew = z := ⟨_, rfl⟩
      rw [hw2] at hal
      have a1 : w2.heap[wr.heap.size]? = some (.cells #[.int .i32 (b : Int), .int .i32 r, .int .i32 (t : Int)] 139 (0, 0)) := by rw [← hw2]; exact a0
      obtain ⟨pt, hpt⟩ : ∃ z, wr.heap.size = z := ⟨_, rfl⟩
      have hptz : W.heap.size ≤ pt := by have := HSZ.out; omega
      have hwz : wr.heap.size ≤ w2.heap.size := hal.size
      have hgr : wr.grownBy w2 (some Bn) := ⟨hal.os, hal.tape, hal.output, hal.size, fun k hk _ => hal.block k hk⟩
      rw [hw2]
      rw [hpt] at a1 ⊢
      have t0 : w2.cell? ⟨pt, 0, none⟩ = some (.int .i32 (b : Int)) := by rw [cell_of_row _ _ _ _ _ (0, 0) a1]; rfl
      have u1 : w2.cell? ⟨pt, 1, none⟩ = some (.int .i32 r) := by rw [cell_of_row _ _ _ _ _ (0, 0) a1]; rfl
      have u2 : w2.cell? ⟨pt, 2, none⟩ = some (.int .i32 (t : Int)) := by rw [cell_of_row _ _ _ _ _ (0, 0) a1]; rfl
      have hJ2 := HJ.out pre wr w2 HJs.out HSZ.out hgr
      have hpx : pre ++ [(b, r, t)] <+: L := by rw [← HP.out, HST.out]; exact ⟨tls F b, by simp⟩
      have hL2 : (pre ++ [(b, r, t)]) ++ tls F b = L := by rw [← HP.out, HST.out]; simp
      have hY1 := HY.out pre (b, r, t) w2 hJ2 hpx (by have := HSZ.out; omega)
      unfold tlEnc at hY1
      simp only at hY1
      obtain ⟨fn, tmps, assign, body, hy, hR⟩ := hY1
      have HR := Lib.hid hR; have HA1 := Lib.hid a1; have HL2 := Lib.hid hL2
      have hBn2 : Boxed w2 Bn 21 (.int .i32 (y : Int)) := (hal.block Bn HBn.out.lt).trans HBn.out
      have hBb2 : Boxed w2 Bb 134 (.pointer (some ⟨q, 0, none⟩)) := (hal.block Bb HBb.out.lt).trans HBb.out
      have HBn2 := Lib.hid hBn2; have HBb2 := Lib.hid hBb2
      have HB2 : Hid (Below n1 w0 w2) := Lib.hid (HB0.out.trans (hal.mono (show n1 ≤ wr.heap.size by have := HB0.out.size; have := HW0.out; omega)))
      have HS2 : Hid (W.heap.size ≤ w2.heap.size) := Lib.hid (by have := HSZ.out; omega)
      have HNE : Hid (pt ≠ Bn) := Lib.hid (fun e => by have := HBn.out.lt; omega)
      clear hw2 a0 a1 hal hgr hJ2 hpx hL2 hR hBn2 hBb2 e0 e1 e2 eq d0 d1 HJs HBn HBb hwz hpt y0 y1 y2 y3 y4 y5
      gi_wp2
      refine HR.out.mono ?_
      rintro e W3 ⟨rfl, hJ3, hk3, hs3⟩
      have hp3 := hk3.tail pt _ _ (by omega) HA1.out
      have v0 : W3.cell? ⟨pt, 0, none⟩ = some (.int .i32 (b : Int)) := by rw [cell_of_row _ _ _ _ _ (0, 0) hp3]; rfl
      have hBn3 : Boxed W3 Bn 21 (.int .i32 (y : Int)) := hk3.b1.trans HBn2.out
      have c3 := hBn3.cell
      have f3 := hBn3.frozen
      have hg3 := z_grown_set W3 Bn 0 (.int .i32 (b : Int))
      have HJ4 := Lib.hid (HJ.out _ W3 _ hJ3 (by have := HS2.out; omega) hg3)
      have HBn4 : Hid (Boxed (W3.setCell ⟨Bn, 0, none⟩ (.int .i32 (b : Int))) Bn 21 (.int .i32 (b : Int))) := Lib.hid (z_set_cells hBn3 0 _)
      have HBb4 : Hid (Boxed (W3.setCell ⟨Bn, 0, none⟩ (.int .i32 (b : Int))) Bb 134 (.pointer (some ⟨q, 0, none⟩))) := Lib.hid ((hg3.block Bb (by have := HBb2.out.lt; omega) (fun e => hnb (by cases e; rfl))).trans (hk3.b2.trans HBb2.out))
      have HB4 : Hid (Below n1 w0 (W3.setCell ⟨Bn, 0, none⟩ (.int .i32 (b : Int)))) := Lib.hid ((HB2.out.trans hk3.bel).grown hg3 (by have := HB2.out.size; have := HW0.out; omega) (fun k e => by cases e; exact h1n))
      have HS4 : Hid (W.heap.size ≤ (W3.setCell ⟨Bn, 0, none⟩ (.int .i32 (b : Int))).heap.size) := Lib.hid (by have := hg3.size; have := HS2.out; omega)
      have hm3 : (W3.setCell ⟨Bn, 0, none⟩ (.int .i32 (b : Int))).cell? ⟨Bn, 0, none⟩ = some (.int .i32 (b : Int)) := HBn4.out.cell
      have hm0 : wr.cell? ⟨Bn, 0, none⟩ = some (.int .i32 (y : Int)) := HM0.out
      clear hBn3 hg3 hJ3 hk3 hs3 hp3 t0 u1 u2
      gi_wp2
      go_roundw
      case rel => exact ⟨b, _, by omega, HL2, HJ4, HB4, HBn4, HBb4, HS4⟩
      case measure => rw [hm3, hm0]; simp [intOf]; omega
theorem tails_seq (n : Nat) (hn : 1 ≤ n) (Bn Bb n1 q N M : Nat) (F : List Fz) (R : List Rst) (hz : FzOk M F R) (hN5 : N ≤ 5000000) (w0 : World) (hw0 : w0.heap.size = n1) (hF : FrzAt w0 q N F) (x : Nat) (hx : x < N)
    (w : World) (hn1 : n1 ≤ w.heap.size) (hW0 : Below n1 w0 w) (h1n : n1 ≤ Bn) (h1b : n1 ≤ Bb) (hnb : Bn ≠ Bb) (hBn : Boxed w Bn 21 (.int .i32 (x : Int))) (hBb : Boxed w Bb 134 (.pointer (some ⟨q, 0, none⟩))) :
    SeqB n Tryd.prog 117 #[.pointer (some ⟨Bn, 0, none⟩), .pointer (some ⟨Bb, 0, none⟩)] tlEnc (tls F x) (KeepT n1 Bn Bb) (some Bn) w :=
  fun l J W hW hJ hY h0 => tails_in n hn l Bn Bb n1 q N M F R hz hN5 w0 hw0 hF x hx J W (Nat.le_trans hn1 hW.size) (hW0.trans (hW.mono hn1)) h1n h1b hnb ((hW.block Bn hBn.lt).trans hBn) ((hW.block Bb hBb.lt).trans hBb) hJ hY h0
end Go.Proofs.YtljaibhhkjapmaaDoor

/- slices.Repeat of one number: a row of its own, all of that number. -/
namespace Go.Proofs.YtljaibhhkjapmaaDoor
open Go.RowKit Go.Shelf
attribute [local go_sem] Oper.semAt_some
set_option linter.unusedSimpArgs false
set_option linter.unusedVariables false

theorem make_n32 (w : World) (n : Nat) (hn : n ≤ 10000000) : (Instr.makeSlice 84 (.int .i64 (n : Int)) (.int .i64 (n : Int))).run Tryd.prog w =
    .ok (.slice (some ⟨w.heap.size, 0, none⟩) n n) (w.alloc (.cells (List.replicate n (Value.int .i32 0)).toArray 21)) := by
  have info32' : (Tryd.prog.info? 21).map (fun i => (i.zero, i.size, i.bytes)) = some (some (.int .i32 0), 1, 4) := by kernel_rfl
  obtain ⟨i0, hi, hz0, hz1, hz2⟩ := info_parts info32'
  have h := run_make (P := Tryd.prog) w 84 21 i0 _ Tryd.underlying84 hi hz0 .i64 .i64 (n : Int) (n : Int) (by omega) (Int.le_refl _) (by rw [hz2]; omega) (by omega)
  rw [h, hz1]
  have e : madeCells (Value.int .i32 0).cells (n * 1) = (List.replicate n (Value.int .i32 0)).toArray := by
    rw [Nat.mul_one]
    apply Array.ext
    · simp [size_madeCells]
    · intro i h1 h2
      simp [madeCells, Value.cells, Nat.mod_one]
  simp only [Int.toNat_natCast]
  rw [e]
/-- A row that is filled from its front. -/
def RepR (W : World) (g k j : Nat) (x : Int) : Prop := W.heap[g]? = some (.cells (List.replicate j (Value.int .i32 x) ++ List.replicate (k - j) (Value.int .i32 0)).toArray 21 (0, 0))
theorem RepR.copy {W : World} {g k j : Nat} {x : Int} (h : RepR W g k j x) (hj : j ≤ k) (m : Nat) (hm : m ≤ k - j) (a : Addr) (sLen sCap dCap : Nat) (ha : ∀ i, i < m → W.cell? (a.add i) = some (.int .i32 x)) (hmin : m = Nat.min sLen (k - j)) :
    ∃ W', (Builtin.copy_ #[84, 84] 3 #[.slice (some ⟨g, j, none⟩) (k - j) dCap, .slice (some a) sLen sCap]).run Tryd.prog W = .ok (.int .i64 (m : Int)) W' ∧ RepR W' g k (j + m) x ∧ (∀ B w0, Below B w0 W → B ≤ g → Below B w0 W') := by
  have h' := h
  unfold RepR at h'
  have hrun := run_copy_row (P := Tryd.prog) W 84 84 3 21 g j (k - j) dCap a sLen sCap _ 21 (List.replicate m (Value.int .i32 x)) Tryd.underlying84 (by kernel_rfl) h' (by rw [List.length_replicate]; exact hmin)
    (fun i v hi => by
      have hl := (List.getElem?_eq_some_iff.1 hi).1
      rw [List.length_replicate] at hl
      rw [List.getElem?_replicate, if_pos hl] at hi
      rw [ha i hl]
      exact hi) (by simp; omega) (fun v hv => by rw [List.mem_replicate] at hv; rw [hv.2]; rfl)
  refine ⟨_, by rw [hrun, List.length_replicate]; rfl, ?_, fun B w0 hb hB => below_setRow hb hB _⟩
  unfold RepR
  have e : ((List.replicate j (Value.int .i32 x) ++ List.replicate (k - j) (Value.int .i32 0)).toArray.toList.take j ++ List.replicate m (Value.int .i32 x) ++ (List.replicate j (Value.int .i32 x) ++ List.replicate (k - j) (Value.int .i32 0)).toArray.toList.drop (j + m)) = List.replicate (j + m) (Value.int .i32 x) ++ List.replicate (k - (j + m)) (Value.int .i32 0) := by
    rw [List.take_left' (by simp), List.drop_append, List.drop_of_length_le (by simp), List.length_replicate, show j + m - j = m by omega, List.drop_replicate, List.replicate_append_replicate, List.nil_append, show k - j - m = k - (j + m) by omega]
  rw [e]
  exact setRow_heap W g _ _ _ (0, 0) h'
theorem z_step_copy {P : Program} {ops : Array Oper} {o : Oper} {a : Act} {w : World} {K : Act → World → Prop} {Q : Exit → Act → World → Prop} {E : Prop} (hgd : o.guard = none) (d s : Operand) (t t' : TypeId) (v u v' : Value) (w' : World)
    (ho : o.op = .call { callee := .builtin .copy, args := #[d, s], argTypes := #[t, t'] }) (hrun : (Builtin.copy_ #[t, t'] o.type #[v, u]).run P w = .ok v' w') (hd : a.eval d = v) (hs : a.eval s = u)
    (h : K (a.put o.dst v') w') : if Region.wanted o (yielded ops a.tmps) = true then Oper.wp P o a w K Q else E := by
  have hw : Region.wanted o (yielded ops a.tmps) = true := by simp [Region.wanted, hgd]
  rw [if_pos hw]
  unfold Oper.wp
  simp [execOp, ho, resolve, invoke, builtin, hd, hs, hrun, Result.andThen]
  exact h

set_option maxRecDepth 100000 in
set_option maxHeartbeats 8000000 in
theorem repeat_any (b o k : Nat) (x : Int) (w : World) (hx : w.cell? ⟨b, o, none⟩ = some (.int .i32 x)) (hk1 : 1 ≤ k) (hk : k ≤ 10000000) :
    Calls Tryd.prog 116 #[.slice (some ⟨b, o, none⟩) 1 1, .int .i64 (k : Int)] w fun e w' => e = .returned (.slice (some ⟨w.heap.size, 0, none⟩) k k) ∧
      w'.heap[w.heap.size]? = some (.cells (List.replicate k (Value.int .i32 x)).toArray 21 (0, 0)) ∧ Below w.heap.size w w' := by
  have hmk := make_n32 w k hk
  have hal := bel_one w (.cells (List.replicate k (Value.int .i32 0)).toArray 21)
  have hR0 : RepR (w.alloc (.cells (List.replicate k (Value.int .i32 0)).toArray 21)) w.heap.size k 0 x := by
    have := heap_alloc_new w (.cells (List.replicate k (Value.int .i32 0)).toArray 21)
    unfold RepR
    simpa using this
  have hx1 := cell_keep hal hx
  obtain ⟨wa, hwa⟩ : ∃ z, w.alloc (.cells (List.replicate k (Value.int .i32 0)).toArray 21) = z := ⟨_, rfl⟩
  obtain ⟨g, hg⟩ : ∃ z, w.heap.size = z := ⟨_, rfl⟩
  rw [hwa] at hmk hal hR0 hx1
  rw [hg] at hmk hal hR0 ⊢
  obtain ⟨w1, hr1, hR1, hb1⟩ := hR0.copy (Nat.zero_le _) 1 (by omega) ⟨b, o, none⟩ 1 1 k (fun i hi => by
    obtain rfl : i = 0 := by omega
    simpa [Addr.add] using hx1) (show 1 = min 1 (k - 0) by omega)
  have HB1 := Lib.hid (hb1 g w hal (Nat.le_refl _))
  rw [Nat.sub_zero, Nat.zero_add] at *
  have HR1 := Lib.hid hR1
  have HRUN1 := Lib.hid hr1
  have cm := Tryd.bits_Mul 1 k (by omega) (by omega)
  rw [Nat.one_mul, Nat.div_eq_of_lt (by omega), Nat.mod_eq_of_lt (by omega)] at cm
  have CM := Lib.hid cm
  have u1 : IntKind.u64.wrap (k : Int) = (k : Int) := by rw [IntKind.wrap_u64]; omega
  have u2 : IntKind.i64.wrap (k : Int) = (k : Int) := by rw [IntKind.wrap_i64]; omega
  have i1 : ¬ (k : Int) < 0 := by omega
  have i2 : ¬ (9223372036854775807 : Int) < (k : Int) := by omega
  clear hal hR0 hx1 hb1 hwa hR1 hr1 cm
  go_enter Tryd.func116, Tryd.ntmps116
  go_wp2_with fail
  refine (CM.out _).mono ?_
  rintro e w' ⟨rfl, e8⟩
  obtain rfl := e8.symm
  clear CM
  go_wp2
  rw [HRUN1.out]
  go_wp2
  clear hmk u1 u2 i1 i2
  go_loopw [8] (fun s8 wr => ∃ j : Nat, s8 = .int .i64 j ∧ 1 ≤ j ∧ j ≤ k ∧ Hid (RepR wr g k j x) ∧ Hid (Below g w wr)) (fun s8 _ => k - (RowKit.intOf s8).toNat)
  case atStart => exact ⟨1, rfl, Nat.le_refl _, hk1, HR1, HB1⟩
  case round =>
    obtain ⟨j, rfl, hj1, hjk, HR, HB⟩ := hrel
    clear HR1 HB1 HRUN1
    by_cases hlt : j < k
    · have i1 : (j : Int) < (k : Int) := by omega
      obtain ⟨m, hm⟩ : ∃ z, Nat.min j (k - j) = z := ⟨_, rfl⟩
      have hm1 : 1 ≤ m ∧ m ≤ j ∧ m ≤ k - j := by
        have h1 := Nat.min_le_left j (k - j)
        have h2 := Nat.min_le_right j (k - j)
        have h3 : 0 < min j (k - j) := by omega
        change Nat.min j (k - j) ≤ _ at h1
        change Nat.min j (k - j) ≤ _ at h2
        change 0 < Nat.min j (k - j) at h3
        omega
      obtain ⟨w2, hr2, hR2, hb2⟩ := (show RepR wr.drew g k j x from HR.out).copy (by omega) m hm1.2.2 ⟨g, 0, none⟩ j k (k - j) (fun i hi => by
        rw [show (⟨g, 0, none⟩ : Addr).add i = ⟨g, i, none⟩ by unfold Addr.add; simp <;> omega]
        have h' := HR.out
        unfold RepR at h'
        show wr.cell? ⟨g, i, none⟩ = _
        rw [cell_of_row _ _ _ _ _ (0, 0) h']
        simp
        rw [List.getElem?_append_left (by simp; omega), List.getElem?_replicate, if_pos (by omega)]) hm.symm
      have HR2 := Lib.hid hR2
      have HB2 : Hid (Below g w w2) := Lib.hid (hb2 g w HB.out.drew (Nat.le_refl _))
      have HRUN2 := Lib.hid hr2
      have hwm : IntKind.i64.wrap ((j : Int) + (m : Int)) = (j : Int) + (m : Int) := by rw [IntKind.wrap_i64]; omega
      have hkj : ¬ k = j := by omega
      have i3 : (j : Int) ≤ (k : Int) := by omega
      clear hR2 hb2 hr2 HR HB hm
      go_wp2
      refine wp_region_held_drew (S := fun _ => True) (by kernel_rfl) trivial (fun hS => ?_)
      change wpAnyH _ _ _ _ _ 10 _ _ _
      refine wpAnyH_take (i := 0) (v := .int .i64 (j : Int)) rfl (by kernel_rfl) (by kernel_rfl) (by kernel_rfl) (fun _ _ _ h => h) (Or.inl ⟨by rfl, fun wy hy => by go_simp⟩) hS ?_
      refine wpAnyH_take (i := 1) (v := .slice (some ⟨g, 0, none⟩) k k) rfl (by kernel_rfl) (by kernel_rfl) (by kernel_rfl) (fun _ _ _ h => h) (Or.inl ⟨by rfl, fun wy hy => by go_simp⟩) hS ?_
      refine wpAnyH_take (i := 2) (v := .int .i64 (j : Int)) rfl (by kernel_rfl) (by kernel_rfl) (by kernel_rfl) (fun _ _ _ h => h) (Or.inl ⟨by rfl, fun wy hy => by go_simp⟩) hS ?_
      refine wpAnyH_take (i := 3) (v := .slice (some ⟨g, j, none⟩) (k - j) (k - j)) rfl (by kernel_rfl) (by kernel_rfl) (by kernel_rfl) (fun _ _ _ h => h) (Or.inl ⟨by rfl, fun wy hy => by go_simp⟩) hS ?_
      refine wpAnyH_take (i := 4) (v := .slice (some ⟨g, 0, none⟩) k k) rfl (by kernel_rfl) (by kernel_rfl) (by kernel_rfl) (fun _ _ _ h => h) (Or.inl ⟨by rfl, fun wy hy => by go_simp⟩) hS ?_
      refine wpAnyH_take (i := 5) (v := .int .i64 (j : Int)) rfl (by kernel_rfl) (by kernel_rfl) (by kernel_rfl) (fun _ _ _ h => h) (Or.inl ⟨by rfl, fun wy hy => by go_simp⟩) hS ?_
      refine wpAnyH_take (i := 6) (v := .slice (some ⟨g, 0, none⟩) j k) rfl (by kernel_rfl) (by kernel_rfl) (by kernel_rfl) (fun _ _ _ h => h) (Or.inl ⟨by rfl, fun wy hy => by go_simp⟩) hS ?_
      refine wpAnyH_ready (rs := [7]) (by kernel_rfl) (by simp) ?_
      refine AllReadyH.cons rfl (fun K hK => ?_) AllReadyH.nil
      refine z_step_copy ?_ (.tmp 41) (.tmp 44) 84 84 (.slice (some ⟨g, j, none⟩) (k - j) (k - j)) (.slice (some ⟨g, 0, none⟩) j k) (.int .i64 (m : Int)) w2 ?_ HRUN2.out ?_ ?_ ?_
      · rfl
      · rfl
      · go_simp
      · go_simp
      refine hK.out _ _ trivial (fun hS => ?_)
      refine wpAnyH_take (i := 8) (v := .int .i64 ((j : Int) + (m : Int))) rfl (by kernel_rfl) (by kernel_rfl) (by kernel_rfl) (fun _ _ _ h => h) (Or.inl ⟨by rfl, fun wy hy => by go_simp⟩) hS ?_
      refine wpAnyH_take (i := 9) (v := .int .i64 ((j : Int) + (m : Int))) rfl (by kernel_rfl) (by kernel_rfl) (by kernel_rfl) (fun _ _ _ h => h) (Or.inl ⟨by rfl, fun wy hy => by go_simp⟩) hS ?_
      refine wpAnyH_done (by kernel_rfl) ?_ _
      simp only [Act.put, List.getElem_toArray, List.getElem_cons_zero, List.getElem_cons_succ, List.setIfInBounds_toArray, List.set_cons_succ, List.set_cons_zero]
      go_wp2
      exact ⟨⟨j + m, by go_num, by omega, by omega, HR2, HB2⟩, by simp [RowKit.intOf]; omega⟩
    · obtain rfl : j = k := by omega
      have i1 : ¬ (j : Int) < (j : Int) := by omega
      have hfin := HR.out
      unfold RepR at hfin
      rw [Nat.sub_self, List.replicate_zero, List.append_nil] at hfin
      have HFIN := Lib.hid hfin
      clear hfin HR
      go_wp2
      go_ret
      exact ⟨rfl, HFIN.out, HB.out⟩
end Go.Proofs.YtljaibhhkjapmaaDoor

/- What lies there while states are met: the order's row, what is laid up, the numbers. -/
namespace Go.Proofs.YtljaibhhkjapmaaDoor
open Go.RowKit Go.Shelf
set_option linter.unusedSimpArgs false
set_option linter.unusedVariables false

theorem info_n32 : (Tryd.prog.info? 21).map (fun i => (i.zero, i.size, i.bytes)) = some (some (.int .i32 0), 1, 4) := by kernel_rfl
def numC (k : Nat) (O : List Nat) : List Value := (nums k O).map (Value.int .i32)
structure MetM (w W : World) (n1 gn Ba N : Nat) (O S : List Nat) (vO vS : Value) : Prop where
  ord : W.ownsRow n1 21 1 vO O.length (gCells nmCell O)
  stk : W.ownsRow n1 21 1 vS S.length (gCells nmCell S)
  num : W.heap[gn]? = some (.cells (numC N O).toArray 21 (0, 0))
  box : Boxed W Ba 84 vS
  a1 : vO.ownBlock ≠ some gn
  a2 : vS.ownBlock ≠ some gn
  a3 : vO.ownBlock = none ∨ vO.ownBlock ≠ vS.ownBlock
  a4 : vS.ownBlock = none ∨ vS.ownBlock ≠ vO.ownBlock
  bel : Below n1 w W
  g0 : n1 ≤ gn
  b0 : n1 ≤ Ba
theorem own_ne_box {W : World} {n1 size n Ba : Nat} {T T' : TypeId} {v u : Value} {xs : List Value} (h : W.ownsRow n1 T size v n xs) (hb : Boxed W Ba T' u) (hT : T ≠ T') : v.ownBlock ≠ some Ba := fun e => by
  rcases h.2 with ⟨rfl, _⟩ | ⟨g, cap, cur, rfl, _, hg, _⟩
  · cases e
  · have e2 : g = Ba := by simpa [Value.ownBlock] using e
    unfold Boxed at hb
    rw [e2, hb] at hg
    simp only [Option.some.injEq, Obj.cells.injEq] at hg
    exact hT hg.2.1.symm
theorem MetM.ap {w W : World} {n1 gn Ba N : Nat} {O S : List Nat} {vO vS : Value} (h : MetM w W n1 gn Ba N O S vO vS) : vO.ownBlock ≠ some Ba ∧ vS.ownBlock ≠ some Ba ∧ gn ≠ Ba ∧ gn < W.heap.size ∧ Ba < W.heap.size ∧ n1 ≤ W.heap.size := by
  refine ⟨own_ne_box h.ord h.box (by decide), own_ne_box h.stk h.box (by decide), fun e => ?_, (Array.getElem?_eq_some_iff.1 h.num).1, h.box.lt, by have := h.box.lt; have := h.b0; omega⟩
  have hn := h.num
  have hb := h.box
  unfold Boxed at hb
  rw [e, hb] at hn
  simp only [Option.some.injEq, Obj.cells.injEq] at hn
  exact absurd hn.2.1 (by decide)
theorem MetM.kept {w W W' : World} {n1 gn Ba N : Nat} {O S : List Nat} {vO vS : Value} {row : Option Nat} (h : MetM w W n1 gn Ba N O S vO vS) (hg : W.grownBy W' row) (h1 : vO.ownBlock = none ∨ vO.ownBlock ≠ row) (h2 : vS.ownBlock = none ∨ vS.ownBlock ≠ row) (h3 : some gn ≠ row) (h4 : some Ba ≠ row) (h5 : ∀ r, row = some r → n1 ≤ r) : MetM w W' n1 gn Ba N O S vO vS :=
  ⟨h.ord.kept hg h1, h.stk.kept hg h2, (hg.block gn h.ap.2.2.2.1 h3).trans h.num, (hg.block Ba h.ap.2.2.2.2.1 h4).trans h.box, h.a1, h.a2, h.a3, h.a4, h.bel.grown hg h.ap.2.2.2.2.2 h5, h.g0, h.b0⟩
theorem MetM.below {w W W' : World} {n1 gn Ba N : Nat} {O S : List Nat} {vO vS : Value} (h : MetM w W n1 gn Ba N O S vO vS) (hb : Below W.heap.size W W') : MetM w W' n1 gn Ba N O S vO vS :=
  h.kept (grown_none hb) (by cases vO.ownBlock <;> simp) (by cases vS.ownBlock <;> simp) (by simp) (by simp) (fun r e => by cases e)
/-- The one on top is taken. -/
theorem MetM.pop {w W : World} {n1 gn Ba N : Nat} {O S : List Nat} {vO : Value} {g cap n x : Nat} (h : MetM w W n1 gn Ba N O (S ++ [x]) vO (.slice (some ⟨g, 0, none⟩) n cap)) : MetM w (W.setCell ⟨Ba, 0, none⟩ (.slice (some ⟨g, 0, none⟩) S.length cap)) n1 gn Ba N O S vO (.slice (some ⟨g, 0, none⟩) S.length cap) := by
  obtain ⟨p1, p2, p3, p4, p5, p6⟩ := h.ap
  have hg := z_grown_set W Ba 0 (.slice (some ⟨g, 0, none⟩) S.length cap)
  have hst := h.stk
  have hn : n = (S ++ [x]).length := by
    rcases hst.2 with ⟨h0, _⟩ | ⟨g', cap', cur, e1, _⟩
    · cases h0
    · simp only [Value.slice.injEq, Option.some.injEq, Addr.mk.injEq] at e1
      exact e1.2.1
  subst hn
  have hfr := z_own_front hst S.length (by simp)
  rw [z_gtake nm_ln _ _ (by simp), List.take_left] at hfr
  exact ⟨h.ord.kept hg (.inr p1), hfr.kept hg (.inr p2), (hg.block gn p4 (fun e => p3 (by cases e; rfl))).trans h.num, z_set_cells h.box 0 _, h.a1, h.a2, h.a3, h.a4, h.bel.grown hg p6 (fun k e => by cases e; exact h.b0), h.g0, h.b0⟩
theorem numC_len (k : Nat) (O : List Nat) : (numC k O).length = k := by simp [numC, nums_len]
theorem numC_at {k n : Nat} (O : List Nat) (h : n < k) : (numC k O)[n]? = some (.int .i32 (if n ∈ O then ((O.idxOf n : Nat) : Int) else -1)) := by
  rw [numC, List.getElem?_map, nums_at O h]; rfl
theorem MetM.numAt {w W : World} {n1 gn Ba N : Nat} {O S : List Nat} {vO vS : Value} (h : MetM w W n1 gn Ba N O S vO vS) {n : Nat} (hn : n < N) : W.cell? ⟨gn, n, none⟩ = some (.int .i32 (if n ∈ O then ((O.idxOf n : Nat) : Int) else -1)) ∧ W.frozen? ⟨gn, n, none⟩ = false := by
  refine ⟨?_, by simp [World.frozen?, h.num]⟩
  rw [cell_of_row _ _ _ _ _ (0, 0) h.num, List.getElem?_toArray, numC_at O hn]
/-- One is met: it is numbered, and stands behind the others. -/
theorem MetM.meet {w W W5 : World} {n1 gn Ba N x : Nat} {O S : List Nat} {vO vS v' : Value} (h : MetM w W n1 gn Ba N O S vO vS) (hx : x ∉ O) (o : Obj) (hg : ((W.setCell ⟨gn, x, none⟩ (.int .i32 (O.length : Int))).alloc o).grownBy W5 vO.ownBlock) (hw : W5.ownsRow n1 21 1 v' (O ++ [x]).length (gCells nmCell (O ++ [x])))
    (hv : v'.ownBlock = vO.ownBlock ∨ v'.ownBlock = some (W.heap.size + 1)) : MetM w W5 n1 gn Ba N (O ++ [x]) S v' vS := by
  obtain ⟨p1, p2, p3, p4, p5, p6⟩ := h.ap
  have hs := z_grown_set W gn x (.int .i32 (O.length : Int))
  have hsz : (W.setCell ⟨gn, x, none⟩ (.int .i32 (O.length : Int))).heap.size = W.heap.size := by simp
  have hal := bel_one (W.setCell ⟨gn, x, none⟩ (.int .i32 (O.length : Int))) o
  have hnum := z_set_cells h.num x (.int .i32 (O.length : Int))
  have enum : (numC N O).toArray.setIfInBounds x (.int .i32 (O.length : Int)) = (numC N (O ++ [x])).toArray := by
    rw [List.setIfInBounds_toArray, numC, numC, nums_snoc hx, List.map_set]
  rw [enum] at hnum
  have hbox : Boxed (W.setCell ⟨gn, x, none⟩ (.int .i32 (O.length : Int))) Ba 84 vS := (hs.block Ba p5 (fun e => p3 (by cases e; rfl))).trans h.box
  have hstk := h.stk.kept hs (.inr h.a2)
  have hbel := h.bel.grown hs p6 (fun k e => by cases e; exact h.g0)
  have hlt : ∀ k, vS.ownBlock = some k → k < W.heap.size := own_lt' h.stk
  have hltO : ∀ k, vO.ownBlock = some k → k < W.heap.size := own_lt' h.ord
  have hnO : ∀ k, vO.ownBlock = some k → n1 ≤ k := fun k e => by
    rcases h.ord.2 with ⟨rfl, _⟩ | ⟨g, cap, cur, rfl, hb, _⟩
    · cases e
    · have e2 : g = k := by simpa [Value.ownBlock] using e
      omega
  refine ⟨hw, (z_own_below hstk hal).kept hg h.a4, ?_, ?_, ?_, h.a2, ?_, ?_, ?_, h.g0, h.b0⟩
  · exact (hg.block gn (by simp; omega) (fun e => h.a1 e.symm)).trans ((hal.block gn (by omega)).trans hnum)
  · exact (hg.block Ba (by simp; omega) (fun e => p1 e.symm)).trans ((hal.block Ba (by omega)).trans hbox)
  · rcases hv with e | e
    · rw [e]; exact h.a1
    · rw [e]; intro e2; have := Option.some.inj e2; omega
  · rcases hv with e | e
    · rw [e]; exact h.a3
    · right; rw [e]; intro e2; have := hlt _ e2.symm; omega
  · rcases hv with e | e
    · rw [e]; exact h.a4
    · right; rw [e]; intro e2; have := hlt _ e2; omega
  · exact (hbel.trans (hal.mono (by omega))).grown hg (by simp; omega) (fun k e => hnO k e)
/-- One more is laid up. -/
theorem MetM.push {w W W5 : World} {n1 gn Ba N x : Nat} {O S : List Nat} {vO vS v' : Value} (h : MetM w W n1 gn Ba N O S vO vS) (o : Obj) (hg : (W.alloc o).grownBy W5 vS.ownBlock) (hw : W5.ownsRow n1 21 1 v' (S ++ [x]).length (gCells nmCell (S ++ [x])))
    (hv : v'.ownBlock = vS.ownBlock ∨ v'.ownBlock = some (W.heap.size + 1)) : MetM w (W5.setCell ⟨Ba, 0, none⟩ v') n1 gn Ba N O (S ++ [x]) vO v' := by
  obtain ⟨p1, p2, p3, p4, p5, p6⟩ := h.ap
  have hal := bel_one W o
  have hbox5 : Boxed W5 Ba 84 vS := (hg.block Ba (by simp; omega) (fun e => p2 e.symm)).trans ((hal.block Ba p5).trans h.box)
  have hs := z_grown_set W5 Ba 0 v'
  have hlt : ∀ k, vO.ownBlock = some k → k < W.heap.size := own_lt' h.ord
  have hnS : ∀ k, vS.ownBlock = some k → n1 ≤ k := fun k e => by
    rcases h.stk.2 with ⟨rfl, _⟩ | ⟨g, cap, cur, rfl, hb, _⟩
    · cases e
    · have e2 : g = k := by simpa [Value.ownBlock] using e
      omega
  have hsz5 : W.heap.size + 1 ≤ W5.heap.size := by have := hg.size; simpa using this
  have hne : v'.ownBlock ≠ some Ba := own_ne_box hw hbox5 (by decide)
  refine ⟨((z_own_below h.ord hal).kept hg h.a3).kept hs (.inr p1), hw.kept hs (.inr hne), ?_, z_set_cells hbox5 0 _, h.a1, ?_, ?_, ?_, ?_, h.g0, h.b0⟩
  · exact (hs.block gn (by omega) (fun e => p3 (by cases e; rfl))).trans ((hg.block gn (by simp; omega) (fun e => h.a2 e.symm)).trans ((hal.block gn p4).trans h.num))
  · rcases hv with e | e
    · rw [e]; exact h.a2
    · rw [e]; intro e2; have := Option.some.inj e2; omega
  · rcases hv with e | e
    · rw [e]; exact h.a3
    · right; rw [e]; intro e2; have := hlt _ e2; omega
  · rcases hv with e | e
    · rw [e]; exact h.a4
    · right; rw [e]; intro e2; have := hlt _ e2.symm; omega
  · exact ((h.bel.trans (hal.mono p6)).grown hg (by simp; omega) (fun k e => hnS k e)).grown hs (by omega) (fun k e => by cases e; exact h.b0)
end Go.Proofs.YtljaibhhkjapmaaDoor

