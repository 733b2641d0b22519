/- Steps that may be, as errataref04.Check tells it. -/
import Derived.Test.YthigbnklekdemaaDoorACheck
namespace Go.Proofs.YthigbnklekdemaaDoor
open Go.RowKit Go.Shelf

/-- A step may be, its runes as layer 1 has them. -/
def stGood (s : St) : Bool := Lib.validRune s.2.1 && Lib.validRune s.2.2 && (decide (s.1 = 0 ∧ s.2.1 = s.2.2) || decide (s.1 = 1 ∧ s.2.1 ≠ s.2.2) || decide (s.1 = 2 ∧ s.2.2 = 0) || decide (s.1 = 3 ∧ s.2.1 = 0))

set_option maxRecDepth 100000 in
set_option maxHeartbeats 20000000 in
theorem refCheck_any (u : Value) (l : List St) (w : World) (hu : StRuns w u l) :
    Calls Tryd.prog 18 #[u] w fun e w' => e = .returned (.int .i64 (if l.all stGood then 0 else 7)) ∧ Below w.heap.size w w' := by
  obtain ⟨res, hres⟩ : ∃ r : Int, r = if l.all stGood then 0 else 7 := ⟨_, rfl⟩
  rw [← hres]
  have HR := Lib.hid hres; clear hres
  obtain ⟨A, c, rfl, hxc, ⟨hxm, _⟩, hxx⟩ := hu
  unfold maxLen at hxm
  obtain ⟨n, hn⟩ : ∃ n, l.length = n := ⟨_, rfl⟩
  rw [hn] at hxc hxx ⊢
  have HN := Lib.hid hn; clear hn
  have HX := Lib.hid hxx; clear hxx
  go_enter Tryd.func18, Tryd.ntmps18
  go_wp2
  go_loopg [8] n (fun g s8 wr => ∃ k : Nat, s8 = .int .i64 k ∧ k ≤ n ∧ n - k ≤ g ∧ Hid (l.all stGood = (l.drop k).all stGood) ∧ Hid (Below w.heap.size w wr))
  case atStart => exact ⟨0, rfl, by omega, by omega, Lib.hid rfl, Lib.hid (Below.refl _ _)⟩
  case round =>
    obtain ⟨k, rfl, hk, hg, HA, HB⟩ := hrel
    by_cases h : k < n
    · have h' : (k : Int) < (n : Int) := by omega
      obtain ⟨b, o, rfl, hb, hcell⟩ := HX.out (by omega)
      obtain ⟨e0, e1, e2⟩ := hcell k h
      clear hcell
      have HA2 : Hid (l.all stGood = (stGood (l.getD k (0, 0, 0)) && (l.drop (k + 1)).all stGood)) := Lib.hid (by
        rw [HA.out, List.drop_eq_getElem_cons (by rw [HN.out]; exact h), List.all_cons, List.getD_eq_getElem?_getD, List.getElem?_eq_getElem (by rw [HN.out]; exact h)]; rfl)
      clear HA
      obtain ⟨⟨kd, ra, rb⟩, hp⟩ : ∃ p, l.getD k (0, 0, 0) = p := ⟨_, rfl⟩
      rw [hp] at e0 e1 e2 HA2
      simp only at e0 e1 e2
      have f0 : wr.cell? ⟨b, o + k * 3, none⟩ = some (.int .i64 kd) := (HB.out.cell (show b < w.heap.size from hb)).trans e0
      have f1 : wr.cell? ⟨b, o + k * 3 + 1, none⟩ = some (.int .i32 ra) := (HB.out.cell (show b < w.heap.size from hb)).trans e1
      have f2 : wr.cell? ⟨b, o + k * 3 + 2, none⟩ = some (.int .i32 rb) := (HB.out.cell (show b < w.heap.size from hb)).trans e2
      clear e0 e1 e2 hp
      have ca := isRune_any ra
      have cb := isRune_any rb
      obtain ⟨v1, hv1⟩ : ∃ v, Lib.validRune ra = v := ⟨_, rfl⟩
      obtain ⟨v2, hv2⟩ : ∃ v, Lib.validRune rb = v := ⟨_, rfl⟩
      have HS : Hid (stGood (kd, ra, rb) = (v1 && v2 && (decide (kd = 0 ∧ ra = rb) || decide (kd = 1 ∧ ra ≠ rb) || decide (kd = 2 ∧ rb = 0) || decide (kd = 3 ∧ ra = 0)))) := Lib.hid (by rw [← hv1, ← hv2]; rfl)
      rw [hv1] at ca
      rw [hv2] at cb
      clear hv1 hv2
      have hkd : kd = 0 ∨ kd = 1 ∨ kd = 2 ∨ kd = 3 ∨ (¬ kd = 0 ∧ ¬ kd = 1 ∧ ¬ kd = 2 ∧ ¬ kd = 3) := by omega
      by_cases hok : (v1 && v2) = true
      · obtain ⟨rfl, rfl⟩ : v1 = true ∧ v2 = true := by simpa using hok
        clear hok
        rcases hkd with rfl | rfl | rfl | rfl | ⟨k0, k1, k2, k3⟩
        · by_cases hab : ra = rb
          · have HG : Hid (l.all stGood = (l.drop (k + 1)).all stGood) := Lib.hid (by rw [HA2.out, HS.out]; simp [hab])
            subst hab
            go_wp2_with fail
            refine (ca _).mono ?_
            rintro e w' ⟨rfl, rfl⟩
            go_wp2_with fail
            refine (cb _).mono ?_
            rintro e w' ⟨rfl, rfl⟩
            go_wp2
            go_roundg (n - (k + 1))
            case measure => omega
            case rel => exact ⟨k + 1, rfl, by omega, by omega, HG, Lib.hid (HB.out.alloc HB.out.size _)⟩
          · have HG : Hid (l.all stGood = false) := Lib.hid (by rw [HA2.out, HS.out]; simp [hab])
            have b1 : (ra == rb) = false := beq_eq_false_iff_ne.2 hab
            have b2 : (ra != rb) = true := bne_iff_ne.2 hab
            have b3 : decide (ra = rb) = false := decide_eq_false hab
            go_wp2_with fail
            refine (ca _).mono ?_
            rintro e w' ⟨rfl, rfl⟩
            go_wp2_with fail
            refine (cb _).mono ?_
            rintro e w' ⟨rfl, rfl⟩
            go_wp2
            go_ret
            exact ⟨ret_int (by rw [HR.out, HG.out]; rfl), HB.out.alloc HB.out.size _⟩
        · by_cases hab : ra = rb
          · have HG : Hid (l.all stGood = false) := Lib.hid (by rw [HA2.out, HS.out]; simp [hab])
            subst hab
            go_wp2_with fail
            refine (ca _).mono ?_
            rintro e w' ⟨rfl, rfl⟩
            go_wp2_with fail
            refine (cb _).mono ?_
            rintro e w' ⟨rfl, rfl⟩
            go_wp2
            go_ret
            exact ⟨ret_int (by rw [HR.out, HG.out]; rfl), HB.out.alloc HB.out.size _⟩
          · have HG : Hid (l.all stGood = (l.drop (k + 1)).all stGood) := Lib.hid (by rw [HA2.out, HS.out]; simp [hab])
            have b1 : (ra == rb) = false := beq_eq_false_iff_ne.2 hab
            have b2 : (ra != rb) = true := bne_iff_ne.2 hab
            have b3 : decide (ra = rb) = false := decide_eq_false hab
            go_wp2_with fail
            refine (ca _).mono ?_
            rintro e w' ⟨rfl, rfl⟩
            go_wp2_with fail
            refine (cb _).mono ?_
            rintro e w' ⟨rfl, rfl⟩
            go_wp2
            go_roundg (n - (k + 1))
            case measure => omega
            case rel => exact ⟨k + 1, rfl, by omega, by omega, HG, Lib.hid (HB.out.alloc HB.out.size _)⟩
        · by_cases hab : rb = 0
          · have HG : Hid (l.all stGood = (l.drop (k + 1)).all stGood) := Lib.hid (by rw [HA2.out, HS.out]; simp [hab])
            subst hab
            go_wp2_with fail
            refine (ca _).mono ?_
            rintro e w' ⟨rfl, rfl⟩
            go_wp2_with fail
            refine (cb _).mono ?_
            rintro e w' ⟨rfl, rfl⟩
            go_wp2
            go_roundg (n - (k + 1))
            case measure => omega
            case rel => exact ⟨k + 1, rfl, by omega, by omega, HG, Lib.hid (HB.out.alloc HB.out.size _)⟩
          · have HG : Hid (l.all stGood = false) := Lib.hid (by rw [HA2.out, HS.out]; simp [hab])
            have b1 : (rb == 0) = false := beq_eq_false_iff_ne.2 hab
            have b2 : (rb != 0) = true := bne_iff_ne.2 hab
            have b3 : decide (rb = 0) = false := decide_eq_false hab
            go_wp2_with fail
            refine (ca _).mono ?_
            rintro e w' ⟨rfl, rfl⟩
            go_wp2_with fail
            refine (cb _).mono ?_
            rintro e w' ⟨rfl, rfl⟩
            go_wp2
            go_ret
            exact ⟨ret_int (by rw [HR.out, HG.out]; rfl), HB.out.alloc HB.out.size _⟩
        · by_cases hab : ra = 0
          · have HG : Hid (l.all stGood = (l.drop (k + 1)).all stGood) := Lib.hid (by rw [HA2.out, HS.out]; simp [hab])
            subst hab
            go_wp2_with fail
            refine (ca _).mono ?_
            rintro e w' ⟨rfl, rfl⟩
            go_wp2_with fail
            refine (cb _).mono ?_
            rintro e w' ⟨rfl, rfl⟩
            go_wp2
            go_roundg (n - (k + 1))
            case measure => omega
            case rel => exact ⟨k + 1, rfl, by omega, by omega, HG, Lib.hid (HB.out.alloc HB.out.size _)⟩
          · have HG : Hid (l.all stGood = false) := Lib.hid (by rw [HA2.out, HS.out]; simp [hab])
            have b1 : (ra == 0) = false := beq_eq_false_iff_ne.2 hab
            have b2 : (ra != 0) = true := bne_iff_ne.2 hab
            have b3 : decide (ra = 0) = false := decide_eq_false hab
            go_wp2_with fail
            refine (ca _).mono ?_
            rintro e w' ⟨rfl, rfl⟩
            go_wp2_with fail
            refine (cb _).mono ?_
            rintro e w' ⟨rfl, rfl⟩
            go_wp2
            go_ret
            exact ⟨ret_int (by rw [HR.out, HG.out]; rfl), HB.out.alloc HB.out.size _⟩
        · have HG : Hid (l.all stGood = false) := Lib.hid (by rw [HA2.out, HS.out]; simp [k0, k1, k2, k3])
          go_wp2_with fail
          refine (ca _).mono ?_
          rintro e w' ⟨rfl, rfl⟩
          go_wp2_with fail
          refine (cb _).mono ?_
          rintro e w' ⟨rfl, rfl⟩
          go_wp2
          go_ret
          exact ⟨ret_int (by rw [HR.out, HG.out]; rfl), HB.out.alloc HB.out.size _⟩
      · have HG : Hid (l.all stGood = false) := Lib.hid (by
          rw [HA2.out, HS.out]
          have : (v1 && v2) = false := by simpa using hok
          rw [this]; simp)
        have hvs : v1 = false ∨ (v1 = true ∧ v2 = false) := by
          cases v1 <;> cases v2 <;> simp_all
        clear hok HS HA2
        rcases hvs with rfl | ⟨rfl, rfl⟩
        · rcases hkd with rfl | rfl | rfl | rfl | ⟨k0, k1, k2, k3⟩
          all_goals
            go_wp2_with fail
            refine (ca _).mono ?_
            rintro e w' ⟨rfl, rfl⟩
            go_wp2
            go_ret
            exact ⟨ret_int (by rw [HR.out, HG.out]; rfl), HB.out.alloc HB.out.size _⟩
        · rcases hkd with rfl | rfl | rfl | rfl | ⟨k0, k1, k2, k3⟩
          all_goals
            go_wp2_with fail
            refine (ca _).mono ?_
            rintro e w' ⟨rfl, rfl⟩
            go_wp2_with fail
            refine (cb _).mono ?_
            rintro e w' ⟨rfl, rfl⟩
            go_wp2
            go_ret
            exact ⟨ret_int (by rw [HR.out, HG.out]; rfl), HB.out.alloc HB.out.size _⟩
    · obtain rfl : k = n := by omega
      have HA2 : Hid (l.all stGood = true) := Lib.hid (by rw [HA.out, List.drop_of_length_le (by rw [HN.out]; exact Nat.le_refl _)]; rfl)
      go_wp2
      go_ret
      exact ⟨ret_int (by rw [HR.out, HA2.out]; rfl), HB.out⟩
end Go.Proofs.YthigbnklekdemaaDoor
