/- BlockChecks, walked over what block's functions answer. -/
import Derived.Test.YtlicchblafodaaaDoorPk10
import Derived.Deep.RegionHeld3
namespace Go.Proofs.YtlicchblafodaaaDoor
open Go.RowKit Go.Shelf

/-- What a region with calls that make memory keeps: two boxes, the tables, all that is old. -/
structure Kept2 (w : World) (p : Nat) (a b : Blk) (w' : World) : Prop where
  a0 : w'.cell? ⟨p, 0, none⟩ = some (.string a.1)
  a1 : w'.cell? ⟨p, 1, none⟩ = some (.string a.2.1)
  a2 : w'.cell? ⟨p, 2, none⟩ = some (.int .i64 a.2.2)
  b0 : w'.cell? ⟨p + 1, 0, none⟩ = some (.string b.1)
  b1 : w'.cell? ⟨p + 1, 1, none⟩ = some (.string b.2.1)
  b2 : w'.cell? ⟨p + 1, 2, none⟩ = some (.int .i64 b.2.2)
  ok : Okw w'
  lt : p + 1 < w'.heap.size
  bel : Below w.heap.size w w'
theorem Kept2.step {w : World} {p : Nat} {a b : Blk} {w' w'' : World} (h : Kept2 w p a b w') (hb : Below w'.heap.size w' w'') : Kept2 w p a b w'' := by
  have h1 := h.lt
  exact ⟨(hb.cell (p := ⟨p, 0, none⟩) (show p < _ by omega)).trans h.a0, (hb.cell (p := ⟨p, 1, none⟩) (show p < _ by omega)).trans h.a1, (hb.cell (p := ⟨p, 2, none⟩) (show p < _ by omega)).trans h.a2,
    (hb.cell (p := ⟨p + 1, 0, none⟩) h1).trans h.b0, (hb.cell (p := ⟨p + 1, 1, none⟩) h1).trans h.b1, (hb.cell (p := ⟨p + 1, 2, none⟩) h1).trans h.b2, h.ok.below hb, Nat.lt_of_lt_of_le h1 hb.size, h.bel.trans (hb.mono h.bel.size)⟩

set_option maxRecDepth 100000 in
set_option maxHeartbeats 8000000 in
theorem blockChecks_walk (a b : Blk) (w : World) (h : Okw w) (ha : Alive5) (hC : a.1.size + a.2.1.size ≤ 3000 → ChkAt a) (hL : a.1.size + a.2.1.size + b.1.size + b.2.1.size ≤ 3000 → LessAt a b) (h1 : a.1.size ≤ 140737488351232) (h2 : a.2.1.size ≤ 140737488351232) (h3 : b.1.size ≤ 140737488351232) (h4 : b.2.1.size ≤ 140737488351232) :
    Calls Tryd.prog 5 #[.agg #[.string a.1, .string a.2.1, .int .i64 a.2.2], .agg #[.string b.1, .string b.2.1, .int .i64 b.2.2]] w (RetTrue w) := by
  unfold Alive5 at ha
  obtain ⟨p, hp⟩ : ∃ p, w.heap.size = p := ⟨_, rfl⟩
  have k0 : Kept2 w p a b ((w.alloc (.cells #[.string a.1, .string a.2.1, .int .i64 a.2.2] 35)).alloc (.cells #[.string b.1, .string b.2.1, .int .i64 b.2.2] 35)) := by
    subst hp
    have hb : Below w.heap.size w ((w.alloc (.cells #[.string a.1, .string a.2.1, .int .i64 a.2.2] 35)).alloc (.cells #[.string b.1, .string b.2.1, .int .i64 b.2.2] 35)) := ((Below.refl _ _).alloc (Nat.le_refl _) _).alloc (by simp) _
    exact ⟨by simp, by simp, by simp, by simp, by simp, by simp, h.below hb, by simp, hb⟩
  have K0 := Lib.hid k0; clear k0
  obtain ⟨⟨x1, x2, x3⟩, hx⟩ : ∃ z, a = z := ⟨_, rfl⟩
  obtain ⟨⟨y1, y2, y3⟩, hy⟩ : ∃ z, b = z := ⟨_, rfl⟩
  subst hx hy
  simp only at h1 h2 h3 h4 hC hL ⊢
  have HP := Lib.hid hp
  by_cases hS : 3000 < x1.size + x2.size + y1.size + y2.size
  · have i1 : (3000 : Int) < (x1.size : Int) + (x2.size : Int) + (y1.size : Int) + (y2.size : Int) := by omega
    go_enter Tryd.func5, Tryd.ntmps5
    go_wp2_with fail
    refine (ha _ K0.out.ok).mono ?_
    rintro e w1 ⟨rfl, b1⟩
    have K1 := K0.out.step b1
    have f0 := K1.a0; have f1 := K1.a1; have f2 := K1.b0; have f3 := K1.b1
    have B1 := Lib.hid K1.bel
    simp only at f0 f1 f2 f3
    clear K1 b1 hp
    go_wp2
    go_ret
    exact ⟨rfl, B1.out⟩
  have i1 : ¬ (3000 : Int) < (x1.size : Int) + (x2.size : Int) + (y1.size : Int) + (y2.size : Int) := by omega
  have c1 := hC (by omega)
  have c2 := fun w => refCheck5_any x1 x2 x3 w (by omega) (by omega)
  have c3 := hL (by omega)
  have c4 := fun w => refLess_any x1 x2 y1 y2 x3 y3 w
  unfold ChkAt at c1
  unfold LessAt at c3
  obtain ⟨ch, hch⟩ : ∃ z, chkS (x1, x2, x3) = z := ⟨_, rfl⟩
  obtain ⟨le, hle⟩ : ∃ z, lessB (x1, x2, x3) (y1, y2, y3) = z := ⟨_, rfl⟩
  simp only [hch] at c1 c2
  simp only [hle] at c3 c4
  have C1 := Lib.hid c1; have C2 := Lib.hid c2; have C3 := Lib.hid c3; have C4 := Lib.hid c4
  clear c1 c2 c3 c4 hch hle hC hL
  go_enter Tryd.func5, Tryd.ntmps5
  go_wp2_with fail
  refine (ha _ K0.out.ok).mono ?_
  rintro e w1 ⟨rfl, b1⟩
  have K1 := K0.out.step b1
  have f0 := K1.a0; have f1 := K1.a1; have f2 := K1.b0; have f3 := K1.b1
  have HK1 := Lib.hid K1
  simp only at f0 f1 f2 f3
  clear K1 b1 hp K0
  go_wp2
  have HK2 : Hid (Kept2 w p (x1, x2, x3) (y1, y2, y3) w1.drew) := Lib.hid ⟨HK1.out.a0, HK1.out.a1, HK1.out.a2, HK1.out.b0, HK1.out.b1, HK1.out.b2, HK1.out.ok, HK1.out.lt, HK1.out.bel.drew⟩
  clear f0 f1 f2 f3
  have g0 := HK1.out.a0; have g1 := HK1.out.a1; have g2 := HK1.out.a2; have g3 := HK1.out.b0; have g4 := HK1.out.b1; have g5 := HK1.out.b2
  simp only at g0 g1 g2 g3 g4 g5
  go_region_held3 (fun w' => w'.cell? ⟨p, 0, none⟩ = some (.string x1) ∧ w'.cell? ⟨p, 1, none⟩ = some (.string x2) ∧ w'.cell? ⟨p, 2, none⟩ = some (.int .i64 x3) ∧ w'.cell? ⟨p + 1, 0, none⟩ = some (.string y1) ∧ w'.cell? ⟨p + 1, 1, none⟩ = some (.string y2) ∧ w'.cell? ⟨p + 1, 2, none⟩ = some (.int .i64 y3) ∧ Hid (Kept2 w p (x1, x2, x3) (y1, y2, y3) w'))
    (first | exact ⟨g0, g1, g2, g3, g4, g5, HK2⟩ | exact ⟨HKn.out.a0, HKn.out.a1, HKn.out.a2, HKn.out.b0, HKn.out.b1, HKn.out.b2, HKn⟩ | go_keep)
    (first
      | (go_at_call 18; refine (C1.out _ ?_).mono ?_; exact (by assumption : Hid (Kept2 w p (x1, x2, x3) (y1, y2, y3) _)).out.ok; rintro e w4 ⟨rfl, hb4⟩; have HKn := Lib.hid ((by assumption : Hid (Kept2 w p (x1, x2, x3) (y1, y2, y3) _)).out.step hb4); clear hb4)
      | (go_at_call 19; refine (C2.out _).mono ?_; rintro e w4 ⟨rfl, hb4⟩; have HKn := Lib.hid ((by assumption : Hid (Kept2 w p (x1, x2, x3) (y1, y2, y3) _)).out.step hb4); clear hb4)
      | (go_at_call 20; refine (C3.out _ ?_).mono ?_; exact (by assumption : Hid (Kept2 w p (x1, x2, x3) (y1, y2, y3) _)).out.ok; rintro e w4 ⟨rfl, hb4⟩; have HKn := Lib.hid ((by assumption : Hid (Kept2 w p (x1, x2, x3) (y1, y2, y3) _)).out.step hb4); clear hb4)
      | (go_at_call 21; refine (C4.out _).mono ?_; rintro e w4 ⟨rfl, hb4⟩; have HKn := Lib.hid ((by assumption : Hid (Kept2 w p (x1, x2, x3) (y1, y2, y3) _)).out.step hb4); clear hb4))
  go_wp2
  go_ret
  exact ⟨rfl, (by assumption : Hid (Kept2 w p (x1, x2, x3) (y1, y2, y3) _)).out.bel⟩
end Go.Proofs.YtlicchblafodaaaDoor
