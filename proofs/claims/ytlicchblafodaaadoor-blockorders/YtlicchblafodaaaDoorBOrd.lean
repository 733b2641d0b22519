/- BlockOrders, walked over what block.Less answers. -/
import Derived.Test.YtlicchblafodaaaDoorBLaw2
import Derived.Test.YtlicchblafodaaaDoorPk9
namespace Go.Proofs.YtlicchblafodaaaDoor
open Go.RowKit Go.Shelf

/-- What is kept of three boxes. -/
structure Kept3 (w : World) (p : Nat) (a b c : Blk) (w' : World) : Prop where
  two : Kept2 w p a b w'
  c0 : w'.cell? ⟨p + 1 + 1, 0, none⟩ = some (.string c.1)
  c1 : w'.cell? ⟨p + 1 + 1, 1, none⟩ = some (.string c.2.1)
  c2 : w'.cell? ⟨p + 1 + 1, 2, none⟩ = some (.int .i64 c.2.2)
  lt : p + 1 + 1 < w'.heap.size
theorem Kept3.step {w : World} {p : Nat} {a b c : Blk} {w' w'' : World} (h : Kept3 w p a b c w') (hb : Below w'.heap.size w' w'') : Kept3 w p a b c w'' :=
  ⟨h.two.step hb, (hb.cell (p := ⟨p + 1 + 1, 0, none⟩) h.lt).trans h.c0, (hb.cell (p := ⟨p + 1 + 1, 1, none⟩) h.lt).trans h.c1, (hb.cell (p := ⟨p + 1 + 1, 2, none⟩) h.lt).trans h.c2, Nat.lt_of_lt_of_le h.lt hb.size⟩

theorem index3_0 (a b c : Bool) (w : World) : (Instr.index 47 (.agg #[.bool a, .bool b, .bool c]) (.int .i64 0)).run Tryd.prog w = .ok (.bool a) w := by kernel_rfl
theorem index3_1 (a b c : Bool) (w : World) : (Instr.index 47 (.agg #[.bool a, .bool b, .bool c]) (.int .i64 1)).run Tryd.prog w = .ok (.bool b) w := by kernel_rfl
theorem index3_2 (a b c : Bool) (w : World) : (Instr.index 47 (.agg #[.bool a, .bool b, .bool c]) (.int .i64 2)).run Tryd.prog w = .ok (.bool c) w := by kernel_rfl

set_option maxRecDepth 100000 in
set_option maxHeartbeats 8000000 in
theorem blockOrders_walk (a b c : Blk) (w : World) (h : Okw w) (ha : Alive5) (hL : ∀ a b, LessAt a b) :
    Calls Tryd.prog 8 #[.agg #[.string a.1, .string a.2.1, .int .i64 a.2.2], .agg #[.string b.1, .string b.2.1, .int .i64 b.2.2], .agg #[.string c.1, .string c.2.1, .int .i64 c.2.2]] w (RetTrue w) := by
  unfold Alive5 at ha
  obtain ⟨p, hp⟩ : ∃ p, w.heap.size = p := ⟨_, rfl⟩
  have k0 : Kept3 w p a b c (((w.alloc (.cells #[.string a.1, .string a.2.1, .int .i64 a.2.2] 35)).alloc (.cells #[.string b.1, .string b.2.1, .int .i64 b.2.2] 35)).alloc (.cells #[.string c.1, .string c.2.1, .int .i64 c.2.2] 35)) := by
    subst hp
    have hb : Below w.heap.size w ((w.alloc (.cells #[.string a.1, .string a.2.1, .int .i64 a.2.2] 35)).alloc (.cells #[.string b.1, .string b.2.1, .int .i64 b.2.2] 35)) := ((Below.refl _ _).alloc (Nat.le_refl _) _).alloc (by simp) _
    have k2 : Kept2 w w.heap.size a b ((w.alloc (.cells #[.string a.1, .string a.2.1, .int .i64 a.2.2] 35)).alloc (.cells #[.string b.1, .string b.2.1, .int .i64 b.2.2] 35)) := ⟨by simp, by simp, by simp, by simp, by simp, by simp, h.below hb, by simp, hb⟩
    have k3 := k2.step ((Below.refl _ _).alloc (Nat.le_refl _) (.cells #[.string c.1, .string c.2.1, .int .i64 c.2.2] 35))
    have e0 := heap_alloc_new ((w.alloc (.cells #[.string a.1, .string a.2.1, .int .i64 a.2.2] 35)).alloc (.cells #[.string b.1, .string b.2.1, .int .i64 b.2.2] 35)) (.cells #[.string c.1, .string c.2.1, .int .i64 c.2.2] 35)
    rw [World.size_alloc, World.size_alloc] at e0
    exact { two := k3, c0 := by rw [cell_of_row _ _ _ _ _ (0, 0) e0]; rfl, c1 := by rw [cell_of_row _ _ _ _ _ (0, 0) e0]; rfl, c2 := by rw [cell_of_row _ _ _ _ _ (0, 0) e0]; rfl, lt := (Array.getElem?_eq_some_iff.1 e0).1 }
  have K0 := Lib.hid k0; clear k0
  have h1 := less_one a b
  have h2 := less_on a b c
  obtain ⟨⟨x1, x2, x3⟩, hx⟩ : ∃ z, a = z := ⟨_, rfl⟩
  obtain ⟨⟨y1, y2, y3⟩, hy⟩ : ∃ z, b = z := ⟨_, rfl⟩
  obtain ⟨⟨z1, z2, z3⟩, hz⟩ : ∃ z, c = z := ⟨_, rfl⟩
  subst hx hy hz
  simp only at ⊢
  have C : Hid (∀ (x1 x2 : ByteArray) (x3 : Int) (y1 y2 : ByteArray) (y3 : Int) (w : World), Okw w → Calls Tryd.prog 20 #[.agg #[.string x1, .string x2, .int .i64 x3], .agg #[.string y1, .string y2, .int .i64 y3]] w fun e w' => e = .returned (.bool (lessB (x1, x2, x3) (y1, y2, y3))) ∧ Below w.heap.size w w') := Lib.hid (fun x1 x2 x3 y1 y2 y3 w h => hL (x1, x2, x3) (y1, y2, y3) w h)
  clear hL
  obtain ⟨lbc, hbc⟩ : ∃ z, lessB (y1, y2, y3) (z1, z2, z3) = z := ⟨_, rfl⟩
  obtain ⟨lac, hac⟩ : ∃ z, lessB (x1, x2, x3) (z1, z2, z3) = z := ⟨_, rfl⟩
  rw [hbc, hac] at h2
  have hsame : ∀ s : Prop, (¬ sameS (x1, x2, x3) (y1, y2, y3)) → ((x1.toList == y1.toList) = false ∨ ((x1.toList == y1.toList) = true ∧ (x2.toList == y2.toList) = false)) := fun _ hn => by
    by_cases e1 : x1.toList = y1.toList
    · right
      refine ⟨by simpa using e1, beq_eq_false_iff_ne.2 (fun e2 => hn ⟨toList_ext e1, toList_ext e2⟩)⟩
    · left; exact beq_eq_false_iff_ne.2 e1
  have I0 := index3_0; have I1 := index3_1; have I2 := index3_2
  have main : ∀ (lab lba : Bool) (q1 q2 : Int), lessB (x1, x2, x3) (y1, y2, y3) = lab → lessB (y1, y2, y3) (x1, x2, x3) = lba → (lab = true → lbc = true → lac = true) →
      ((lab = true ∧ lba = false ∧ q1 = 1 ∧ q2 = 1 ∧ ((x1.toList == y1.toList) = false ∨ ((x1.toList == y1.toList) = true ∧ (x2.toList == y2.toList) = false))) ∨ (lab = false ∧ lba = true ∧ q1 = 0 ∧ q2 = 1 ∧ ((x1.toList == y1.toList) = false ∨ ((x1.toList == y1.toList) = true ∧ (x2.toList == y2.toList) = false))) ∨ (lab = false ∧ lba = false ∧ q1 = 0 ∧ q2 = 0 ∧ (x1.toList == y1.toList) = true ∧ (x2.toList == y2.toList) = true)) →
      Calls Tryd.prog 8 #[.agg #[.string x1, .string x2, .int .i64 x3], .agg #[.string y1, .string y2, .int .i64 y3], .agg #[.string z1, .string z2, .int .i64 z3]] w (RetTrue w) := by
    intro lab lba q1 q2 hab hba hon hcs
    clear h1 h2 hsame
    have HP := Lib.hid hp
    have HON := Lib.hid hon; clear hon
    have HBC := Lib.hid hbc; have HAC := Lib.hid hac; have HAB := Lib.hid hab; have HBA := Lib.hid hba
    go_enter Tryd.func8, Tryd.ntmps8
    go_wp2_with fail
    refine (ha _ K0.out.two.ok).mono ?_
    rintro e w1 ⟨rfl, b1⟩
    have K1 := Lib.hid (K0.out.step b1)
    clear b1 hp K0
    have g0 := K1.out.two.a0; have g1 := K1.out.two.a1; have g2 := K1.out.two.a2; have g3 := K1.out.two.b0; have g4 := K1.out.two.b1; have g5 := K1.out.two.b2
    simp only at g0 g1 g2 g3 g4 g5
    rcases hcs with ⟨l1, l2, hq1, hq2, e1 | ⟨e1, e2⟩⟩ | ⟨l1, l2, hq1, hq2, e1 | ⟨e1, e2⟩⟩ | ⟨l1, l2, hq1, hq2, e1, e2⟩
    all_goals
      have HQ1 := Lib.hid hq1; have HQ2 := Lib.hid hq2; clear hq1 hq2
      go_wp2
      have HK2 : Hid (Kept3 w p (x1, x2, x3) (y1, y2, y3) (z1, z2, z3) w1.drew) := Lib.hid ⟨⟨K1.out.two.a0, K1.out.two.a1, K1.out.two.a2, K1.out.two.b0, K1.out.two.b1, K1.out.two.b2, K1.out.two.ok, K1.out.two.lt, K1.out.two.bel.drew⟩, K1.out.c0, K1.out.c1, K1.out.c2, K1.out.lt⟩
      go_region_held3 (fun w' => w'.cell? ⟨p, 0, none⟩ = some (.string x1) ∧ w'.cell? ⟨p, 1, none⟩ = some (.string x2) ∧ w'.cell? ⟨p, 2, none⟩ = some (.int .i64 x3) ∧ w'.cell? ⟨p + 1, 0, none⟩ = some (.string y1) ∧ w'.cell? ⟨p + 1, 1, none⟩ = some (.string y2) ∧ w'.cell? ⟨p + 1, 2, none⟩ = some (.int .i64 y3) ∧ Hid (Kept3 w p (x1, x2, x3) (y1, y2, y3) (z1, z2, z3) w'))
        (first | exact ⟨g0, g1, g2, g3, g4, g5, HK2⟩ | exact ⟨HKn.out.two.a0, HKn.out.two.a1, HKn.out.two.a2, HKn.out.two.b0, HKn.out.two.b1, HKn.out.two.b2, HKn⟩ | go_keep)
        (first
          | (go_at_call 20; refine (C.out _ _ _ _ _ _ _ ?_).mono ?_; exact (by assumption : Hid (Kept3 w p (x1, x2, x3) (y1, y2, y3) (z1, z2, z3) _)).out.two.ok; rintro e w4 ⟨rfl, hb4⟩; have HKn := Lib.hid ((by assumption : Hid (Kept3 w p (x1, x2, x3) (y1, y2, y3) (z1, z2, z3) _)).out.step hb4); clear hb4))
      subst l1 l2
      rename_i hHeld
      clear hHeld
      go_wp2
      go_loopg [33, 8] 3 (fun g s33 s8 wr => wr = w4 ∧ ((s33 = .int .i64 0 ∧ s8 = .int .i64 0 ∧ 3 ≤ g) ∨ (s33 = .int .i64 1 ∧ s8 = .int .i64 q1 ∧ 2 ≤ g) ∨ (s33 = .int .i64 2 ∧ s8 = .int .i64 q2 ∧ 1 ≤ g) ∨ (s33 = .int .i64 3 ∧ s8 = .int .i64 1)))
      case atStart => exact ⟨rfl, .inl ⟨rfl, rfl, Nat.le_refl _⟩⟩
      case round =>
        have hq1 := HQ1.out; have hq2 := HQ2.out; clear HQ1 HQ2
        subst hq1 hq2
        obtain ⟨rfl, ⟨rfl, rfl, hg⟩ | ⟨rfl, rfl, hg⟩ | ⟨rfl, rfl, hg⟩ | ⟨rfl, rfl⟩⟩ := hrel
        · go_wp2
          go_roundg 2
          case measure => omega
          case rel => exact ⟨rfl, .inr (.inl ⟨rfl, rfl, by omega⟩)⟩
        · go_wp2
          go_roundg 1
          case measure => omega
          case rel => exact ⟨rfl, .inr (.inr (.inl ⟨rfl, rfl, by omega⟩))⟩
        · go_wp2
          go_roundg 0
          case measure => omega
          case rel => exact ⟨rfl, .inr (.inr (.inr ⟨rfl, rfl⟩))⟩
        · have u0 := HKn.out.two.a0; have u1 := HKn.out.two.a1; have u2 := HKn.out.two.a2; have u3 := HKn.out.two.b0; have u4 := HKn.out.two.b1; have u5 := HKn.out.two.b2; have u6 := HKn.out.c0; have u7 := HKn.out.c1; have u8 := HKn.out.c2
          simp only at u0 u1 u2 u3 u4 u5 u6 u7 u8
          clear hab hba hbc hac e1
          go_wp2_with fail
          refine (C.out _ _ _ _ _ _ _ HKn.out.two.ok).mono ?_
          rintro e w5 ⟨rfl, b5⟩
          have K5 := Lib.hid (HKn.out.step b5)
          clear b5 u0 u1 u2 u3 u4 u5 u6 u7 u8
          rw [HAB.out]
          first
            | (have hF : lessB (x1, x2, x3) (y1, y2, y3) = false := HAB.out
               clear hF
               go_wp2
               go_ret
               exact ⟨rfl, K5.out.two.bel⟩)
            | (have hT : lessB (x1, x2, x3) (y1, y2, y3) = true := HAB.out
               clear hT
               have u3 := K5.out.two.b0; have u4 := K5.out.two.b1; have u5 := K5.out.two.b2; have u6 := K5.out.c0; have u7 := K5.out.c1; have u8 := K5.out.c2
               simp only at u3 u4 u5 u6 u7 u8
               go_wp2_with fail
               refine (C.out _ _ _ _ _ _ _ K5.out.two.ok).mono ?_
               rintro e w6 ⟨rfl, b6⟩
               have K6 := Lib.hid (K5.out.step b6)
               clear b6 u3 u4 u5 u6 u7 u8
               rw [HBC.out]
               cases hlbc : lbc
               · go_wp2
                 go_ret
                 exact ⟨rfl, K6.out.two.bel⟩
               · have hlac : lac = true := HON.out (by trivial) hlbc
                 have u0 := K6.out.two.a0; have u1 := K6.out.two.a1; have u2 := K6.out.two.a2; have u6 := K6.out.c0; have u7 := K6.out.c1; have u8 := K6.out.c2
                 simp only at u0 u1 u2 u6 u7 u8
                 go_wp2_with fail
                 refine (C.out _ _ _ _ _ _ _ K6.out.two.ok).mono ?_
                 rintro e w7 ⟨rfl, b7⟩
                 have K7 := Lib.hid (K6.out.step b7)
                 clear b7 u0 u1 u2 u6 u7 u8
                 rw [HAC.out, hlac]
                 go_wp2
                 go_ret
                 exact ⟨rfl, K7.out.two.bel⟩)
  rcases h1 with ⟨h3, h4, h5⟩ | ⟨h3, h4, h5⟩ | ⟨h3, h4, h5⟩
  · exact main _ _ _ _ h3 h4 (fun _ => h2 h3) (.inl ⟨rfl, rfl, rfl, rfl, hsame True h5⟩)
  · exact main _ _ _ _ h3 h4 (fun h => by cases h) (.inr (.inl ⟨rfl, rfl, rfl, rfl, hsame True h5⟩))
  · exact main _ _ _ _ h3 h4 (fun h => by cases h) (.inr (.inr ⟨rfl, rfl, rfl, rfl, by have e : x1 = y1 := h5.1; subst e; simp, by have e : x2 = y2 := h5.2; subst e; simp⟩))
end Go.Proofs.YtlicchblafodaaaDoor
