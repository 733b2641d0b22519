/- Texts that several proofs of this seat share, one behind the other: ACheck2 ARead ALaw2 GRead GRead2 GCost GAlive ABackP. -/
import Derived.Test.YtnognphjndpgkaaGreatDoorPk6
import Derived.Test.YtnognphjndpgkaaGreatDoorPk5
import Derived.Test.YtnognphjndpgkaaGreatDoorPk3
/- Steps that may be, as errataref04.Check tells it. -/
namespace Go.Proofs.YtnognphjndpgkaaGreatDoor
open Go.RowKit Go.Shelf

/-- A step may be, its runes as layer 1 has them. -/
def stGood (s : St) : Bool := Lib.validRune s.2.1 && Lib.validRune s.2.2 && (decide (s.1 = 0 ∧ s.2.1 = s.2.2) || decide (s.1 = 1 ∧ s.2.1 ≠ s.2.2) || decide (s.1 = 2 ∧ s.2.2 = 0) || decide (s.1 = 3 ∧ s.2.1 = 0))

set_option maxRecDepth 100000 in
set_option maxHeartbeats 20000000 in
theorem refCheck_any (u : Value) (l : List St) (w : World) (hu : StRuns w u l) :
    Calls Tryz.prog 57 #[u] w fun e w' => e = .returned (.int .i64 (if l.all stGood then 0 else 7)) ∧ Below w.heap.size w w' := by
  obtain ⟨res, hres⟩ : ∃ r : Int, r = if l.all stGood then 0 else 7 := ⟨_, rfl⟩
  rw [← hres]
  have HR := Lib.hid hres; clear hres
  obtain ⟨A, c, rfl, hxc, ⟨hxm, _⟩, hxx⟩ := hu
  unfold maxLen at hxm
  obtain ⟨n, hn⟩ : ∃ n, l.length = n := ⟨_, rfl⟩
  rw [hn] at hxc hxx ⊢
  have HN := Lib.hid hn; clear hn
  have HX := Lib.hid hxx; clear hxx
  go_enter Tryz.func57, Tryz.ntmps57
  go_wp2
  go_loopg [8] n (fun g s8 wr => ∃ k : Nat, s8 = .int .i64 k ∧ k ≤ n ∧ n - k ≤ g ∧ Hid (l.all stGood = (l.drop k).all stGood) ∧ Hid (Below w.heap.size w wr))
  case atStart => exact ⟨0, rfl, by omega, by omega, Lib.hid rfl, Lib.hid (Below.refl _ _)⟩
  case round =>
    obtain ⟨k, rfl, hk, hg, HA, HB⟩ := hrel
    by_cases h : k < n
    · have h' : (k : Int) < (n : Int) := by omega
      obtain ⟨b, o, rfl, hb, hcell⟩ := HX.out (by omega)
      obtain ⟨e0, e1, e2⟩ := hcell k h
      clear hcell
      have HA2 : Hid (l.all stGood = (stGood (l.getD k (0, 0, 0)) && (l.drop (k + 1)).all stGood)) := Lib.hid (by
        rw [HA.out, List.drop_eq_getElem_cons (by rw [HN.out]; exact h), List.all_cons, List.getD_eq_getElem?_getD, List.getElem?_eq_getElem (by rw [HN.out]; exact h)]; rfl)
      clear HA
      obtain ⟨⟨kd, ra, rb⟩, hp⟩ : ∃ p, l.getD k (0, 0, 0) = p := ⟨_, rfl⟩
      rw [hp] at e0 e1 e2 HA2
      simp only at e0 e1 e2
      have f0 : wr.cell? ⟨b, o + k * 3, none⟩ = some (.int .i64 kd) := (HB.out.cell (show b < w.heap.size from hb)).trans e0
      have f1 : wr.cell? ⟨b, o + k * 3 + 1, none⟩ = some (.int .i32 ra) := (HB.out.cell (show b < w.heap.size from hb)).trans e1
      have f2 : wr.cell? ⟨b, o + k * 3 + 2, none⟩ = some (.int .i32 rb) := (HB.out.cell (show b < w.heap.size from hb)).trans e2
      clear e0 e1 e2 hp
      have ca := isRune_any ra
      have cb := isRune_any rb
      obtain ⟨v1, hv1⟩ : ∃ v, Lib.validRune ra = v := ⟨_, rfl⟩
      obtain ⟨v2, hv2⟩ : ∃ v, Lib.validRune rb = v := ⟨_, rfl⟩
      have HS : Hid (stGood (kd, ra, rb) = (v1 && v2 && (decide (kd = 0 ∧ ra = rb) || decide (kd = 1 ∧ ra ≠ rb) || decide (kd = 2 ∧ rb = 0) || decide (kd = 3 ∧ ra = 0)))) := Lib.hid (by rw [← hv1, ← hv2]; rfl)
      rw [hv1] at ca
      rw [hv2] at cb
      clear hv1 hv2
      have hkd : kd = 0 ∨ kd = 1 ∨ kd = 2 ∨ kd = 3 ∨ (¬ kd = 0 ∧ ¬ kd = 1 ∧ ¬ kd = 2 ∧ ¬ kd = 3) := by omega
      by_cases hok : (v1 && v2) = true
      · obtain ⟨rfl, rfl⟩ : v1 = true ∧ v2 = true := by simpa using hok
        clear hok
        rcases hkd with rfl | rfl | rfl | rfl | ⟨k0, k1, k2, k3⟩
        · by_cases hab : ra = rb
          · have HG : Hid (l.all stGood = (l.drop (k + 1)).all stGood) := Lib.hid (by rw [HA2.out, HS.out]; simp [hab])
            subst hab
            go_wp2_with fail
            refine (ca _).mono ?_
            rintro e w' ⟨rfl, rfl⟩
            go_wp2_with fail
            refine (cb _).mono ?_
            rintro e w' ⟨rfl, rfl⟩
            go_wp2
            go_roundg (n - (k + 1))
            case measure => omega
            case rel => exact ⟨k + 1, rfl, by omega, by omega, HG, Lib.hid (HB.out.alloc HB.out.size _)⟩
          · have HG : Hid (l.all stGood = false) := Lib.hid (by rw [HA2.out, HS.out]; simp [hab])
            have b1 : (ra == rb) = false := beq_eq_false_iff_ne.2 hab
            have b2 : (ra != rb) = true := bne_iff_ne.2 hab
            have b3 : decide (ra = rb) = false := decide_eq_false hab
            go_wp2_with fail
            refine (ca _).mono ?_
            rintro e w' ⟨rfl, rfl⟩
            go_wp2_with fail
            refine (cb _).mono ?_
            rintro e w' ⟨rfl, rfl⟩
            go_wp2
            go_ret
            exact ⟨ret_int (by rw [HR.out, HG.out]; rfl), HB.out.alloc HB.out.size _⟩
        · by_cases hab : ra = rb
          · have HG : Hid (l.all stGood = false) := Lib.hid (by rw [HA2.out, HS.out]; simp [hab])
            subst hab
            go_wp2_with fail
            refine (ca _).mono ?_
            rintro e w' ⟨rfl, rfl⟩
            go_wp2_with fail
            refine (cb _).mono ?_
            rintro e w' ⟨rfl, rfl⟩
            go_wp2
            go_ret
            exact ⟨ret_int (by rw [HR.out, HG.out]; rfl), HB.out.alloc HB.out.size _⟩
          · have HG : Hid (l.all stGood = (l.drop (k + 1)).all stGood) := Lib.hid (by rw [HA2.out, HS.out]; simp [hab])
            have b1 : (ra == rb) = false := beq_eq_false_iff_ne.2 hab
            have b2 : (ra != rb) = true := bne_iff_ne.2 hab
            have b3 : decide (ra = rb) = false := decide_eq_false hab
            go_wp2_with fail
            refine (ca _).mono ?_
            rintro e w' ⟨rfl, rfl⟩
            go_wp2_with fail
            refine (cb _).mono ?_
            rintro e w' ⟨rfl, rfl⟩
            go_wp2
            go_roundg (n - (k + 1))
            case measure => omega
            case rel => exact ⟨k + 1, rfl, by omega, by omega, HG, Lib.hid (HB.out.alloc HB.out.size _)⟩
        · by_cases hab : rb = 0
          · have HG : Hid (l.all stGood = (l.drop (k + 1)).all stGood) := Lib.hid (by rw [HA2.out, HS.out]; simp [hab])
            subst hab
            go_wp2_with fail
            refine (ca _).mono ?_
            rintro e w' ⟨rfl, rfl⟩
            go_wp2_with fail
            refine (cb _).mono ?_
            rintro e w' ⟨rfl, rfl⟩
            go_wp2
            go_roundg (n - (k + 1))
            case measure => omega
            case rel => exact ⟨k + 1, rfl, by omega, by omega, HG, Lib.hid (HB.out.alloc HB.out.size _)⟩
          · have HG : Hid (l.all stGood = false) := Lib.hid (by rw [HA2.out, HS.out]; simp [hab])
            have b1 : (rb == 0) = false := beq_eq_false_iff_ne.2 hab
            have b2 : (rb != 0) = true := bne_iff_ne.2 hab
            have b3 : decide (rb = 0) = false := decide_eq_false hab
            go_wp2_with fail
            refine (ca _).mono ?_
            rintro e w' ⟨rfl, rfl⟩
            go_wp2_with fail
            refine (cb _).mono ?_
            rintro e w' ⟨rfl, rfl⟩
            go_wp2
            go_ret
            exact ⟨ret_int (by rw [HR.out, HG.out]; rfl), HB.out.alloc HB.out.size _⟩
        · by_cases hab : ra = 0
          · have HG : Hid (l.all stGood = (l.drop (k + 1)).all stGood) := Lib.hid (by rw [HA2.out, HS.out]; simp [hab])
            subst hab
            go_wp2_with fail
            refine (ca _).mono ?_
            rintro e w' ⟨rfl, rfl⟩
            go_wp2_with fail
            refine (cb _).mono ?_
            rintro e w' ⟨rfl, rfl⟩
            go_wp2
            go_roundg (n - (k + 1))
            case measure => omega
            case rel => exact ⟨k + 1, rfl, by omega, by omega, HG, Lib.hid (HB.out.alloc HB.out.size _)⟩
          · have HG : Hid (l.all stGood = false) := Lib.hid (by rw [HA2.out, HS.out]; simp [hab])
            have b1 : (ra == 0) = false := beq_eq_false_iff_ne.2 hab
            have b2 : (ra != 0) = true := bne_iff_ne.2 hab
            have b3 : decide (ra = 0) = false := decide_eq_false hab
            go_wp2_with fail
            refine (ca _).mono ?_
            rintro e w' ⟨rfl, rfl⟩
            go_wp2_with fail
            refine (cb _).mono ?_
            rintro e w' ⟨rfl, rfl⟩
            go_wp2
            go_ret
            exact ⟨ret_int (by rw [HR.out, HG.out]; rfl), HB.out.alloc HB.out.size _⟩
        · have HG : Hid (l.all stGood = false) := Lib.hid (by rw [HA2.out, HS.out]; simp [k0, k1, k2, k3])
          go_wp2_with fail
          refine (ca _).mono ?_
          rintro e w' ⟨rfl, rfl⟩
          go_wp2_with fail
          refine (cb _).mono ?_
          rintro e w' ⟨rfl, rfl⟩
          go_wp2
          go_ret
          exact ⟨ret_int (by rw [HR.out, HG.out]; rfl), HB.out.alloc HB.out.size _⟩
      · have HG : Hid (l.all stGood = false) := Lib.hid (by
          rw [HA2.out, HS.out]
          have : (v1 && v2) = false := by simpa using hok
          rw [this]; simp)
        have hvs : v1 = false ∨ (v1 = true ∧ v2 = false) := by
          cases v1 <;> cases v2 <;> simp_all
        clear hok HS HA2
        rcases hvs with rfl | ⟨rfl, rfl⟩
        · rcases hkd with rfl | rfl | rfl | rfl | ⟨k0, k1, k2, k3⟩
          all_goals
            go_wp2_with fail
            refine (ca _).mono ?_
            rintro e w' ⟨rfl, rfl⟩
            go_wp2
            go_ret
            exact ⟨ret_int (by rw [HR.out, HG.out]; rfl), HB.out.alloc HB.out.size _⟩
        · rcases hkd with rfl | rfl | rfl | rfl | ⟨k0, k1, k2, k3⟩
          all_goals
            go_wp2_with fail
            refine (ca _).mono ?_
            rintro e w' ⟨rfl, rfl⟩
            go_wp2_with fail
            refine (cb _).mono ?_
            rintro e w' ⟨rfl, rfl⟩
            go_wp2
            go_ret
            exact ⟨ret_int (by rw [HR.out, HG.out]; rfl), HB.out.alloc HB.out.size _⟩
    · obtain rfl : k = n := by omega
      have HA2 : Hid (l.all stGood = true) := Lib.hid (by rw [HA.out, List.drop_of_length_le (by rw [HN.out]; exact Nat.le_refl _)]; rfl)
      go_wp2
      go_ret
      exact ⟨ret_int (by rw [HR.out, HA2.out]; rfl), HB.out⟩
end Go.Proofs.YtnognphjndpgkaaGreatDoor

/- What steps are of, as errataref04.Read tells it. -/
namespace Go.Proofs.YtnognphjndpgkaaGreatDoor
open Go.RowKit Go.Shelf

set_option maxRecDepth 100000 in
set_option maxHeartbeats 1000000 in
theorem refText_any (u : Value) (l : List Int) (w : World) (hu : Runs w u l) (hlen : l.length * 4 + 4 ≤ 140737488355328) :
    Calls Tryz.prog 89 #[u] w fun e w' => e = .returned (.string ⟨(encS l).toArray⟩) ∧ Below w.heap.size w w' := by
  have C := Lib.hid (refEncode_any u l w hu hlen)
  go_enter Tryz.func89, Tryz.ntmps89
  go_wp2_with fail
  refine C.out.mono ?_
  rintro e w1 ⟨rfl, hb⟩
  go_wp2
  go_ret
  exact ⟨rfl, hb⟩

/-- Two rows of runes of the call's own, side by side. -/
def Two (w : World) (base : Nat) (a : Value) (xs : List Int) (b : Value) (ys : List Int) : Prop :=
  w.ownsRow base 21 1 a xs.length (xs.map (Value.int .i32)) ∧ w.ownsRow base 21 1 b ys.length (ys.map (Value.int .i32)) ∧ (a.ownBlock = none ∨ a.ownBlock ≠ b.ownBlock)
theorem own_lt {w : World} {base : Nat} {e : TypeId} {size n : Nat} {v : Value} {xs : List Value} (h : w.ownsRow base e size v n xs) : ∀ g, v.ownBlock = some g → g < w.heap.size := by
  intro g hg
  rcases h.2 with ⟨rfl, _⟩ | ⟨g', cap, cur, rfl, _, hh, _⟩
  · simp [Value.ownBlock] at hg
  · obtain rfl : g' = g := by simpa [Value.ownBlock] using hg
    exact (Array.getElem?_eq_some_iff.1 hh).1
theorem Two.swap {w : World} {base : Nat} {a b : Value} {xs ys : List Int} (h : Two w base a xs b ys) : Two w base b ys a xs := by
  refine ⟨h.2.1, h.1, ?_⟩
  rcases h.2.2 with h0 | h0
  · cases hb : b.ownBlock with
    | none => exact .inl rfl
    | some g => exact .inr (by rw [h0]; simp)
  · exact .inr (fun e => h0 e.symm)
theorem Two.alloc {w : World} {base : Nat} {a b : Value} {xs ys : List Int} (h : Two w base a xs b ys) (o : Obj) : Two (w.alloc o) base a xs b ys :=
  ⟨h.1.alloc o, h.2.1.alloc o, h.2.2⟩
/-- append(a, r). -/
theorem Two.append {w : World} {base : Nat} {a b : Value} {xs ys : List Int} (h : Two w base a xs b ys) (r : Int) (hbase : base ≤ w.heap.size) (hlen : (xs.length + 1) * 4 ≤ 140737488355328) :
    ∃ v' w', (Builtin.append_ #[59, 59] 59 #[a, .slice (some ⟨w.heap.size, 0, none⟩) 1 1]).run Tryz.prog (w.alloc (.cells #[.int .i32 r] 21)) = .ok v' w' ∧ Two w' base v' (xs ++ [r]) b ys ∧ Below base w w' ∧ w.heap.size ≤ w'.heap.size ∧ ∀ k, k < w.heap.size → a.ownBlock ≠ some k → w'.heap[k]? = w.heap[k]? := by
  have hba : Below w.heap.size w (w.alloc (.cells #[.int .i32 r] 21)) := (Below.refl _ _).alloc (Nat.le_refl _) _
  have h' := h.alloc (.cells #[.int .i32 r] 21)
  obtain ⟨v', w', hrun, h2, h3, h5⟩ := append_runs (w.alloc (.cells #[.int .i32 r] 21)) base a xs.length _ h'.1 _ [r] (runs_lit w r) (by simp; omega) (by simpa using hlen)
  refine ⟨v', w', hrun, ⟨by simpa using h2, h'.2.1.kept h3 h'.swap.2.2, ?_⟩, (hba.mono hbase).grown h3 (by simp; omega) (own_block h.1), Nat.le_trans hba.size h3.size, fun k hk hne => (h3.block k (by simp; omega) (fun e => hne e.symm)).trans (hba.block k hk)⟩
  rcases h5 with h5 | h5
  · rw [h5]; exact h.2.2
  · refine .inr ?_
    rw [h5]
    intro e
    have := own_lt h.2.1 _ e.symm
    simp at this
    omega

theorem stA_append (a b : List St) : stA (a ++ b) = stA a ++ stA b := by
  induction a with
  | nil => rfl
  | cons s a ih => simp only [List.cons_append, stA, ih]; split <;> rfl
theorem stB_append (a b : List St) : stB (a ++ b) = stB a ++ stB b := by
  induction a with
  | nil => rfl
  | cons s a ih => simp only [List.cons_append, stB, ih]; split <;> rfl
theorem stA_take (l : List St) (k : Nat) (hk : k < l.length) : stA (l.take (k + 1)) = stA (l.take k) ++ stA [l.getD k (0, 0, 0)] := by
  rw [List.take_add_one, stA_append]
  simp [List.getElem?_eq_getElem hk, List.getD_eq_getElem?_getD]
theorem stB_take (l : List St) (k : Nat) (hk : k < l.length) : stB (l.take (k + 1)) = stB (l.take k) ++ stB [l.getD k (0, 0, 0)] := by
  rw [List.take_add_one, stB_append]
  simp [List.getElem?_eq_getElem hk, List.getD_eq_getElem?_getD]
theorem stA_len (l : List St) : (stA l).length ≤ l.length := by
  induction l with
  | nil => simp [stA]
  | cons s l ih => simp only [stA]; split <;> simp <;> omega
theorem stB_len (l : List St) : (stB l).length ≤ l.length := by
  induction l with
  | nil => simp [stB]
  | cons s l ih => simp only [stB]; split <;> simp <;> omega

set_option maxRecDepth 100000 in
set_option maxHeartbeats 4000000 in
theorem refRead_ok (u : Value) (l : List St) (w : World) (hu : StRuns w u l) (hl : l.length ≤ 1000000) (hgood : l.all stGood = true) :
    Calls Tryz.prog 59 #[u] w fun e w' => e = .returned (.tuple #[.string ⟨(encS (stA l)).toArray⟩, .string ⟨(encS (stB l)).toArray⟩, .int .i64 0]) ∧ Below w.heap.size w w' := by
  have cc := refCheck_any u l w hu
  rw [hgood] at cc
  simp only [if_true] at cc
  clear hgood
  go_enter Tryz.func59, Tryz.ntmps59
  go_wp2_with fail
  refine cc.mono ?_
  rintro e w1 ⟨rfl, b1⟩
  have hu1 := hu.below b1
  have B1 := Lib.hid b1; clear b1 hu cc
  obtain ⟨A, c, rfl, hxc, ⟨hxm, _⟩, hxx⟩ := hu1
  unfold maxLen at hxm
  obtain ⟨n, hn⟩ : ∃ n, l.length = n := ⟨_, rfl⟩
  rw [hn] at hxc hxx hl ⊢
  have HN := Lib.hid hn; clear hn
  have HX := Lib.hid hxx; clear hxx
  go_wp2
  go_loopg [6, 7, 17] n (fun g s6 s7 s17 wr => ∃ k : Nat, s17 = .int .i64 k ∧ k ≤ n ∧ n - k ≤ g ∧ Hid (Two wr w1.heap.size s6 (stA (l.take k)) s7 (stB (l.take k))) ∧ Hid (Below w1.heap.size w1 wr))
  case atStart => exact ⟨0, rfl, by omega, by omega, Lib.hid ⟨World.ownsRow_nil _ _ _ _, World.ownsRow_nil _ _ _ _, .inl rfl⟩, Lib.hid (Below.refl _ _)⟩
  case round =>
    obtain ⟨k, rfl, hk, hg, H2, HB⟩ := hrel
    by_cases h : k < n
    · have h' : (k : Int) < (n : Int) := by omega
      obtain ⟨b, o, rfl, hb, hcell⟩ := HX.out (by omega)
      obtain ⟨e0, e1, e2⟩ := hcell k h
      clear hcell
      have HSA := Lib.hid (stA_take l k (by rw [HN.out]; exact h))
      have HSB := Lib.hid (stB_take l k (by rw [HN.out]; exact h))
      have la := stA_len (l.take k)
      have lb := stB_len (l.take k)
      rw [List.length_take] at la lb
      obtain ⟨⟨kd, ra, rb⟩, hp⟩ : ∃ p, l.getD k (0, 0, 0) = p := ⟨_, rfl⟩
      rw [hp] at e0 e1 e2 HSA HSB
      simp only at e0 e1 e2
      have f0 : wr.cell? ⟨b, o + k * 3, none⟩ = some (.int .i64 kd) := (HB.out.cell (show b < w1.heap.size from hb)).trans e0
      have f1 : wr.cell? ⟨b, o + k * 3 + 1, none⟩ = some (.int .i32 ra) := (HB.out.cell (show b < w1.heap.size from hb)).trans e1
      have f2 : wr.cell? ⟨b, o + k * 3 + 2, none⟩ = some (.int .i32 rb) := (HB.out.cell (show b < w1.heap.size from hb)).trans e2
      clear e0 e1 e2 hp
      obtain ⟨w3, hw3⟩ : ∃ w3, w3 = wr.alloc (.cells #[.int .i64 kd, .int .i32 ra, .int .i32 rb] 90) := ⟨_, rfl⟩
      have d0 : w3.cell? ⟨wr.heap.size, 0, none⟩ = some (.int .i64 kd) := by rw [hw3]; simp
      have d2 : w3.cell? ⟨wr.heap.size, 2, none⟩ = some (.int .i32 rb) := by rw [hw3]; simp
      have hz3 : w3.heap.size = wr.heap.size + 1 := by rw [hw3]; simp
      have H3 : Hid (Two w3 w1.heap.size u6 (stA (l.take k)) u7 (stB (l.take k))) := Lib.hid (by rw [hw3]; exact H2.out.alloc _)
      have HB3 : Hid (Below w1.heap.size w1 w3) := Lib.hid (by rw [hw3]; exact HB.out.alloc HB.out.size _)
      have hzb := HB.out.size
      have hne : u6.ownBlock ≠ some wr.heap.size := fun e => Nat.lt_irrefl _ (own_lt H2.out.1 _ e)
      obtain ⟨xa, hxa⟩ : ∃ xa, stA (l.take k) = xa := ⟨_, rfl⟩
      obtain ⟨xb, hxb⟩ : ∃ xb, stB (l.take k) = xb := ⟨_, rfl⟩
      rw [hxa] at H3 HSA la
      rw [hxb] at H3 HSB lb
      clear hxa hxb H2
      by_cases h3 : kd = 3
      · subst h3
        have HSA' : Hid (stA (l.take (k + 1)) = xa) := Lib.hid (by rw [HSA.out]; simp [stA])
        have HSB' : Hid (stB (l.take (k + 1)) = xb ++ [rb]) := Lib.hid (by rw [HSB.out]; simp [stB])
        obtain ⟨v5, w5, hrun, hT5, hb5, _, _⟩ := Two.append H3.out.swap rb (by omega) (by omega)
        rw [hz3, hw3] at hrun
        have HR := Lib.hid hrun; clear hrun
        have H5 := Lib.hid hT5.swap; clear hT5
        have HB5 : Hid (Below w1.heap.size w1 w5) := Lib.hid (HB3.out.trans hb5); clear hb5
        clear d0 d2 hz3 H3 HB3 hne hw3
        go_wp2_with (at_builtin; refine wpList_append_run (.tmp 32) (.tmp 35) 59 _ _ _ _ HR.out rfl rfl rfl rfl ?_)
        go_roundg (n - (k + 1))
        case measure => omega
        case rel => exact ⟨k + 1, rfl, by omega, by omega, Lib.hid (by rw [HSA'.out, HSB'.out]; exact H5.out), HB5⟩
      · obtain ⟨v5, w5, hrun, hT5, hb5, hz5, hk5⟩ := Two.append H3.out ra (by omega) (by omega)
        rw [hz3, hw3] at hrun
        have HR := Lib.hid hrun; clear hrun
        have g0 : w5.cell? ⟨wr.heap.size, 0, none⟩ = some (.int .i64 kd) := (World.cell?_of_block (w := w3) (hk5 wr.heap.size (by omega) hne)).trans d0
        have g2 : w5.cell? ⟨wr.heap.size, 2, none⟩ = some (.int .i32 rb) := (World.cell?_of_block (w := w3) (hk5 wr.heap.size (by omega) hne)).trans d2
        have H5 := Lib.hid hT5; clear hT5
        have HB5 : Hid (Below w1.heap.size w1 w5) := Lib.hid (HB3.out.trans hb5)
        have hz5' : w1.heap.size ≤ w5.heap.size := HB5.out.size
        clear hb5 hk5 d0 d2 hz3 H3 HB3 hne hw3 hz5
        by_cases h2 : kd = 2
        · subst h2
          have HSA' : Hid (stA (l.take (k + 1)) = xa ++ [ra]) := Lib.hid (by rw [HSA.out]; simp [stA])
          have HSB' : Hid (stB (l.take (k + 1)) = xb) := Lib.hid (by rw [HSB.out]; simp [stB])
          go_wp2_with (at_builtin; refine wpList_append_run (.tmp 24) (.tmp 27) 59 _ _ _ _ HR.out rfl rfl rfl rfl ?_)
          go_roundg (n - (k + 1))
          case measure => omega
          case rel => exact ⟨k + 1, rfl, by omega, by omega, Lib.hid (by rw [HSA'.out, HSB'.out]; exact H5.out), HB5⟩
        · have HSA' : Hid (stA (l.take (k + 1)) = xa ++ [ra]) := Lib.hid (by rw [HSA.out]; simp [stA, h3])
          have HSB' : Hid (stB (l.take (k + 1)) = xb ++ [rb]) := Lib.hid (by rw [HSB.out]; simp [stB, h2])
          obtain ⟨v6, w6, hrun6, hT6, hb6, _, _⟩ := Two.append H5.out.swap rb hz5' (by omega)
          have HR6 := Lib.hid hrun6; clear hrun6
          have H6 := Lib.hid hT6.swap; clear hT6
          have HB6 : Hid (Below w1.heap.size w1 w6) := Lib.hid (HB5.out.trans hb6); clear hb6
          clear hz5'
          go_wp2_with (at_builtin; first | refine wpList_append_run (.tmp 24) (.tmp 27) 59 _ _ _ _ HR.out rfl rfl rfl rfl ?_ | refine wpList_append_run (.tmp 32) (.tmp 35) 59 _ _ _ _ HR6.out rfl rfl rfl rfl ?_)
          go_roundg (n - (k + 1))
          case measure => omega
          case rel => exact ⟨k + 1, rfl, by omega, by omega, Lib.hid (by rw [HSA'.out, HSB'.out]; exact H6.out), HB6⟩
    · obtain rfl : k = n := by omega
      have H2' := H2.out
      rw [List.take_of_length_le (by rw [HN.out]; exact Nat.le_refl _)] at H2'
      have la := stA_len l
      have lb := stB_len l
      rw [HN.out] at la lb
      have ra := Runs.of_own H2'.1
      have rb := Runs.of_own H2'.2.1
      have ta := refText_any u6 (stA l) wr ra (by omega)
      have RB := Lib.hid rb; clear rb
      have tb := fun (w' : World) (hb : Below wr.heap.size wr w') => refText_any u7 (stB l) w' (RB.out.below hb) (by omega)
      have TBB := Lib.hid tb; clear tb ra H2 H2' la lb
      obtain ⟨ea, hea⟩ : ∃ e, encS (stA l) = e := ⟨_, rfl⟩
      obtain ⟨eb, heb⟩ : ∃ e, encS (stB l) = e := ⟨_, rfl⟩
      rw [hea] at ta
      simp only [heb] at TBB
      go_wp2_with fail
      refine ta.mono ?_
      rintro e w5 ⟨rfl, b5⟩
      have t2 := TBB.out w5 b5
      have B5 := Lib.hid b5; clear b5 ta
      go_wp2_with fail
      refine t2.mono ?_
      rintro e w6 ⟨rfl, b6⟩
      have B6 := Lib.hid b6; clear b6 t2
      go_wp2
      refine bodyPost_ret (v := .tuple #[.string ⟨ea.toArray⟩, .string ⟨eb.toArray⟩, .int .i64 0]) (by simp [results, Tryz.results59, go_sem]) rfl ⟨by rw [hea, heb], ?_⟩
      exact B1.out.trans ((HB.out.mono B1.out.size).trans ((B5.out.mono (Nat.le_trans B1.out.size HB.out.size)).trans (B6.out.mono (Nat.le_trans B1.out.size (Nat.le_trans HB.out.size B5.out.size)))))

set_option maxRecDepth 100000 in
set_option maxHeartbeats 4000000 in
theorem refRead_bad (u : Value) (l : List St) (w : World) (hu : StRuns w u l) (hgood : l.all stGood = false) :
    Calls Tryz.prog 59 #[u] w fun e w' => e = .returned (.tuple #[.string ⟨#[]⟩, .string ⟨#[]⟩, .int .i64 7]) ∧ Below w.heap.size w w' := by
  have cc := refCheck_any u l w hu
  rw [hgood] at cc
  have c7 : Calls Tryz.prog 57 #[u] w fun e w' => e = .returned (.int .i64 7) ∧ Below w.heap.size w w' := cc
  clear cc
  go_enter Tryz.func59, Tryz.ntmps59
  go_wp2_with fail
  refine c7.mono ?_
  rintro e w1 ⟨rfl, b1⟩
  have B1 := Lib.hid b1; clear b1 c7
  go_wp2
  exact bodyPost_ret (v := .tuple #[.string ⟨#[]⟩, .string ⟨#[]⟩, .int .i64 7]) (by simp [results, Tryz.results59, go_sem]) rfl ⟨rfl, B1.out⟩
end Go.Proofs.YtnognphjndpgkaaGreatDoor

/- The law AlignReads, walked over what align's functions answer. -/
namespace Go.Proofs.YtnognphjndpgkaaGreatDoor
open Go.RowKit Go.Shelf

def stErr (l : List St) : Int := if l.all stGood then 0 else 7
def readA (l : List St) : List UInt8 := if l.all stGood then encS (stA l) else []
def readB (l : List St) : List UInt8 := if l.all stGood then encS (stB l) else []
/-- What align.Read, Check and Cost answer at steps, in every world. -/
def ReadAt (l : List St) : Prop := ∀ w u, Okw w → StRuns w u l → Calls Tryz.prog 74 #[u] w fun e w' => e = .returned (.tuple #[.string ⟨(readA l).toArray⟩, .string ⟨(readB l).toArray⟩, .int .i64 (stErr l)]) ∧ Below w.heap.size w w'
def CheckAt (l : List St) : Prop := ∀ w u, Okw w → StRuns w u l → Calls Tryz.prog 51 #[u] w fun e w' => e = .returned (.int .i64 (stErr l)) ∧ Below w.heap.size w w'

theorem refRead_any (u : Value) (l : List St) (w : World) (hu : StRuns w u l) (hl : l.length ≤ 1000000) :
    Calls Tryz.prog 59 #[u] w fun e w' => e = .returned (.tuple #[.string ⟨(readA l).toArray⟩, .string ⟨(readB l).toArray⟩, .int .i64 (stErr l)]) ∧ Below w.heap.size w w' := by
  cases hg : l.all stGood with
  | true =>
    unfold readA readB stErr
    rw [hg]
    exact refRead_ok u l w hu hl hg
  | false =>
    unfold readA readB stErr
    rw [hg]
    exact refRead_bad u l w hu hg

end Go.Proofs.YtnognphjndpgkaaGreatDoor

/- align.Read, Check: what steps are of, whether they may be. -/
namespace Go.Proofs.YtnognphjndpgkaaGreatDoor
open Go.RowKit Go.Shelf

/-- A step has what its kind asks for. -/
def stForm (s : St) : Bool := decide (s.1 = 0 ∧ s.2.1 = s.2.2) || decide (s.1 = 1 ∧ s.2.1 ≠ s.2.2) || decide (s.1 = 2 ∧ s.2.2 = 0) || decide (s.1 = 3 ∧ s.2.1 = 0)

set_option maxRecDepth 100000 in
set_option maxHeartbeats 4000000 in
theorem formed_any (k a b : Int) (w : World) :
    Calls Tryz.prog 95 #[.agg #[.int .i64 k, .int .i32 a, .int .i32 b]] w fun e w' => e = .returned (.bool (stForm (k, a, b))) ∧ w' = w.alloc (.cells #[.int .i64 k, .int .i32 a, .int .i32 b] 90) := by
  obtain ⟨res, hres⟩ : ∃ r, stForm (k, a, b) = r := ⟨_, rfl⟩
  rw [hres]
  unfold stForm at hres
  simp only at hres
  have HR := Lib.hid hres; clear hres
  by_cases k0 : k = 0
  · subst k0
    have hr : res = (a == b) := by rw [← HR.out]; simp; rfl
    have H2 := Lib.hid hr; clear hr
    go_enter Tryz.func95, Tryz.ntmps95
    go_wp2
    go_ret
    exact ⟨ret_bool H2.out.symm, rfl⟩
  by_cases k1 : k = 1
  · subst k1
    have hr : res = (a != b) := by rw [← HR.out]; simp [bne]; rfl
    have H2 := Lib.hid hr; clear hr
    go_enter Tryz.func95, Tryz.ntmps95
    go_wp2
    go_ret
    exact ⟨ret_bool H2.out.symm, rfl⟩
  by_cases k2 : k = 2
  · subst k2
    have hr : res = (b == 0) := by rw [← HR.out]; simp; rfl
    have H2 := Lib.hid hr; clear hr
    go_enter Tryz.func95, Tryz.ntmps95
    go_wp2
    go_ret
    exact ⟨ret_bool H2.out.symm, rfl⟩
  by_cases k3 : k = 3
  · subst k3
    have hr : res = (a == 0) := by rw [← HR.out]; simp; rfl
    have H2 := Lib.hid hr; clear hr
    go_enter Tryz.func95, Tryz.ntmps95
    go_wp2
    go_ret
    exact ⟨ret_bool H2.out.symm, rfl⟩
  have hr : res = false := by rw [← HR.out]; simp [k0, k1, k2, k3]
  subst hr
  have b0 : (k == 0) = false := beq_eq_false_iff_ne.2 k0
  have b1 : (k == 1) = false := beq_eq_false_iff_ne.2 k1
  have b2 : (k == 2) = false := beq_eq_false_iff_ne.2 k2
  have b3 : (k == 3) = false := beq_eq_false_iff_ne.2 k3
  go_enter Tryz.func95, Tryz.ntmps95
  go_wp2
  go_ret
  exact ⟨rfl, rfl⟩

theorem good_all (l : List St) (h : l.all stForm = true) : l.all stGood = (allRunes (stA l) && allRunes (stB l)) := by
  induction l with
  | nil => rfl
  | cons s l ih =>
    rw [List.all_cons, Bool.and_eq_true] at h
    obtain ⟨k, a, b⟩ := s
    rw [List.all_cons, ih h.2]
    have hs := h.1
    unfold stForm at hs
    simp only [Bool.or_eq_true, decide_eq_true_eq] at hs
    have v0 : Lib.validRune 0 = true := by decide
    rcases hs with ((⟨rfl, rfl⟩ | ⟨rfl, h2⟩) | ⟨rfl, rfl⟩) | ⟨rfl, rfl⟩
    · simp only [stGood, stA, stB, allRunes]
      simp
      cases Lib.validRune a <;> simp
    · simp only [stGood, stA, stB, allRunes]
      simp [h2]
      cases Lib.validRune a <;> cases Lib.validRune b <;> simp
    · simp only [stGood, stA, stB, allRunes]
      simp [v0]
      cases Lib.validRune a <;> simp
    · simp only [stGood, stA, stB, allRunes]
      simp [v0]
      cases Lib.validRune b <;> simp
theorem good_formed (s : St) (h : stForm s = false) : stGood s = false := by
  unfold stForm at h
  unfold stGood
  rw [h, Bool.and_false]
theorem form_no (l : List St) (k : Nat) (h : k < l.length) (hf : stForm (l.getD k (0, 0, 0)) = false) : l.all stGood = false := by
  rw [List.all_eq_false]
  refine ⟨l[k], List.getElem_mem h, ?_⟩
  rw [List.getD_eq_getElem?_getD, List.getElem?_eq_getElem h] at hf
  have hf' : stForm l[k] = false := hf
  simp [good_formed _ hf']
theorem form_take (l : List St) (k : Nat) (h : k < l.length) : (l.take (k + 1)).all stForm = ((l.take k).all stForm && stForm (l.getD k (0, 0, 0))) := by
  rw [List.take_add_one, List.all_append]
  simp [List.getElem?_eq_getElem h, List.getD_eq_getElem?_getD]
/-- Numbers that fit. -/
def stFit (l : List St) : Prop := ∀ s ∈ l, (-2147483648 ≤ s.2.1 ∧ s.2.1 ≤ 2147483647) ∧ (-2147483648 ≤ s.2.2 ∧ s.2.2 ≤ 2147483647)
theorem fit_A (l : List St) (h : stFit l) : ∀ x ∈ stA l, -2147483648 ≤ x ∧ x ≤ 2147483647 := by
  induction l with
  | nil => intro x hx; simp [stA] at hx
  | cons s l ih =>
    have i := ih fun t ht => h t (by simp [ht])
    intro x hx
    simp only [stA] at hx
    split at hx
    · exact i x hx
    · rcases List.mem_cons.1 hx with rfl | hx
      · exact (h s (by simp)).1
      · exact i x hx
theorem fit_B (l : List St) (h : stFit l) : ∀ x ∈ stB l, -2147483648 ≤ x ∧ x ≤ 2147483647 := by
  induction l with
  | nil => intro x hx; simp [stB] at hx
  | cons s l ih =>
    have i := ih fun t ht => h t (by simp [ht])
    intro x hx
    simp only [stB] at hx
    split at hx
    · exact i x hx
    · rcases List.mem_cons.1 hx with rfl | hx
      · exact (h s (by simp)).2
      · exact i x hx
end Go.Proofs.YtnognphjndpgkaaGreatDoor

/- align.Read, Check: what they answer at steps. -/
namespace Go.Proofs.YtnognphjndpgkaaGreatDoor
open Go.RowKit Go.Shelf

set_option maxRecDepth 100000 in
set_option maxHeartbeats 8000000 in
theorem read_any (l : List St) (hl : l.length ≤ 1000000) (hfit : stFit l) : ReadAt l := by
  intro w u hO hu
  have FA := Lib.hid (fit_A l hfit)
  have FB := Lib.hid (fit_B l hfit)
  clear hfit hO
  obtain ⟨ra, hra⟩ : ∃ r, readA l = r := ⟨_, rfl⟩
  obtain ⟨rb, hrb⟩ : ∃ r, readB l = r := ⟨_, rfl⟩
  obtain ⟨er, her⟩ : ∃ r, stErr l = r := ⟨_, rfl⟩
  rw [hra, hrb, her]
  have HRA := Lib.hid hra; clear hra
  have HRB := Lib.hid hrb; clear hrb
  have HER := Lib.hid her; clear her
  obtain ⟨A, c, rfl, hxc, ⟨hxm, _⟩, hxx⟩ := hu
  unfold maxLen at hxm
  obtain ⟨n, hn⟩ : ∃ n, l.length = n := ⟨_, rfl⟩
  rw [hn] at hxc hxx hl ⊢
  have HN := Lib.hid hn; clear hn
  have HX := Lib.hid hxx; clear hxx
  go_enter Tryz.func74, Tryz.ntmps74
  go_wp2
  go_loopg [5, 6, 15] n (fun g s5 s6 s15 wr => ∃ k : Nat, s15 = .int .i64 k ∧ k ≤ n ∧ n - k ≤ g ∧ Hid (Two wr w.heap.size s5 (stA (l.take k)) s6 (stB (l.take k))) ∧ Hid ((l.take k).all stForm = true) ∧ Hid (Below w.heap.size w wr))
  case atStart => exact ⟨0, rfl, by omega, by omega, Lib.hid ⟨World.ownsRow_nil _ _ _ _, World.ownsRow_nil _ _ _ _, .inl rfl⟩, Lib.hid rfl, Lib.hid (Below.refl _ _)⟩
  case round =>
    obtain ⟨k, rfl, hk, hg, H2, HF, HB⟩ := hrel
    by_cases h : k < n
    · have h' : (k : Int) < (n : Int) := by omega
      obtain ⟨b, o, rfl, hb, hcell⟩ := HX.out (by omega)
      obtain ⟨e0, e1, e2⟩ := hcell k h
      clear hcell
      have HSA := Lib.hid (stA_take l k (by rw [HN.out]; exact h))
      have HSB := Lib.hid (stB_take l k (by rw [HN.out]; exact h))
      have HFT := Lib.hid (form_take l k (by rw [HN.out]; exact h))
      have HNO := Lib.hid (form_no l k (by rw [HN.out]; exact h))
      have la := stA_len (l.take k)
      have lb := stB_len (l.take k)
      rw [List.length_take] at la lb
      obtain ⟨⟨kd, pa, pb⟩, hp⟩ : ∃ p, l.getD k (0, 0, 0) = p := ⟨_, rfl⟩
      rw [hp] at e0 e1 e2 HSA HSB HFT HNO
      simp only at e0 e1 e2
      have f0 : wr.cell? ⟨b, o + k * 3, none⟩ = some (.int .i64 kd) := (HB.out.cell (show b < w.heap.size from hb)).trans e0
      have f1 : wr.cell? ⟨b, o + k * 3 + 1, none⟩ = some (.int .i32 pa) := (HB.out.cell (show b < w.heap.size from hb)).trans e1
      have f2 : wr.cell? ⟨b, o + k * 3 + 2, none⟩ = some (.int .i32 pb) := (HB.out.cell (show b < w.heap.size from hb)).trans e2
      clear e0 e1 e2 hp
      have cf := formed_any kd pa pb (wr.alloc (.cells #[.int .i64 kd, .int .i32 pa, .int .i32 pb] 90))
      cases hf : stForm (kd, pa, pb) with
      | false =>
        rw [hf] at cf
        have G0 := Lib.hid (HNO.out hf)
        have hra : ra = [] := by rw [← HRA.out, readA, G0.out]; rfl
        have hrb : rb = [] := by rw [← HRB.out, readB, G0.out]; rfl
        have her : er = 7 := by rw [← HER.out, stErr, G0.out]; rfl
        subst hra hrb her
        clear hf HNO HFT HSA HSB G0 HRA HRB HER
        go_wp2_with fail
        refine cf.mono ?_
        rintro e w3 ⟨rfl, hw3⟩
        have B3 : Hid (Below w.heap.size w w3) := Lib.hid (by rw [hw3]; exact (HB.out.alloc HB.out.size _).alloc (by have := HB.out.size; simp; omega) _)
        clear hw3
        go_wp2
        exact bodyPost_ret (v := .tuple #[.string ⟨#[]⟩, .string ⟨#[]⟩, .int .i64 7]) (by simp [results, Tryz.results74, go_sem]) rfl ⟨rfl, B3.out⟩
      | true =>
        rw [hf] at cf
        have HFn : Hid ((l.take (k + 1)).all stForm = true) := Lib.hid (by rw [HFT.out, HF.out, hf]; rfl)
        clear hf HNO HFT
        obtain ⟨w3, hw3⟩ : ∃ w3, w3 = (wr.alloc (.cells #[.int .i64 kd, .int .i32 pa, .int .i32 pb] 90)).alloc (.cells #[.int .i64 kd, .int .i32 pa, .int .i32 pb] 90) := ⟨_, rfl⟩
        have hz3 : w3.heap.size = wr.heap.size + 1 + 1 := by rw [hw3]; simp
        have hba : Below (wr.heap.size + 1) (wr.alloc (.cells #[.int .i64 kd, .int .i32 pa, .int .i32 pb] 90)) w3 := by rw [hw3]; exact (Below.refl _ _).alloc (by simp) _
        have d0 : w3.cell? ⟨wr.heap.size, 0, none⟩ = some (.int .i64 kd) := (hba.cell (p := ⟨wr.heap.size, 0, none⟩) (by simp)).trans (by simp)
        have d1 : w3.cell? ⟨wr.heap.size, 1, none⟩ = some (.int .i32 pa) := (hba.cell (p := ⟨wr.heap.size, 1, none⟩) (by simp)).trans (by simp)
        have d2 : w3.cell? ⟨wr.heap.size, 2, none⟩ = some (.int .i32 pb) := (hba.cell (p := ⟨wr.heap.size, 2, none⟩) (by simp)).trans (by simp)
        have H3 : Hid (Two w3 w.heap.size u5 (stA (l.take k)) u6 (stB (l.take k))) := Lib.hid (by rw [hw3]; exact (H2.out.alloc _).alloc _)
        have HB3 : Hid (Below w.heap.size w w3) := Lib.hid (by rw [hw3]; exact (HB.out.alloc HB.out.size _).alloc (by have := HB.out.size; simp; omega) _)
        have hzb := HB.out.size
        have hne : u5.ownBlock ≠ some wr.heap.size := fun e => Nat.lt_irrefl _ (own_lt H2.out.1 _ e)
        rw [← hw3] at cf
        obtain ⟨xa, hxa⟩ : ∃ xa, stA (l.take k) = xa := ⟨_, rfl⟩
        obtain ⟨xb, hxb⟩ : ∃ xb, stB (l.take k) = xb := ⟨_, rfl⟩
        rw [hxa] at H3 HSA la
        rw [hxb] at H3 HSB lb
        clear hxa hxb H2 hw3 hba
        go_wp2_with fail
        refine cf.mono ?_
        rintro e w3' ⟨rfl, hw3'⟩
        have hw3 := hw3'.symm; clear hw3'; subst hw3
        clear cf f0 f1 f2
        by_cases h3 : kd = 3
        · subst h3
          have HSA' : Hid (stA (l.take (k + 1)) = xa) := Lib.hid (by rw [HSA.out]; simp [stA])
          have HSB' : Hid (stB (l.take (k + 1)) = xb ++ [pb]) := Lib.hid (by rw [HSB.out]; simp [stB])
          obtain ⟨v5, w5, hrun, hT5, hb5, _, _⟩ := Two.append H3.out.swap pb (by omega) (by omega)
          rw [hz3] at hrun
          have HR := Lib.hid hrun; clear hrun
          have H5 := Lib.hid hT5.swap; clear hT5
          have HB5 : Hid (Below w.heap.size w w5) := Lib.hid (HB3.out.trans hb5); clear hb5
          clear H3 HB3 hne
          go_wp2_with (at_builtin; refine wpList_append_run (.tmp 33) (.tmp 36) 59 _ _ _ _ HR.out rfl rfl rfl rfl ?_)
          go_roundg (n - (k + 1))
          case measure => omega
          case rel => exact ⟨k + 1, rfl, by omega, by omega, Lib.hid (by rw [HSA'.out, HSB'.out]; exact H5.out), HFn, HB5⟩
        · obtain ⟨v5, w5, hrun, hT5, hb5, hz5, hk5⟩ := Two.append H3.out pa (by omega) (by omega)
          rw [hz3] at hrun
          have HR := Lib.hid hrun; clear hrun
          have g0 : w5.cell? ⟨wr.heap.size, 0, none⟩ = some (.int .i64 kd) := (World.cell?_of_block (w := w3) (hk5 wr.heap.size (by omega) hne)).trans d0
          have g2 : w5.cell? ⟨wr.heap.size, 2, none⟩ = some (.int .i32 pb) := (World.cell?_of_block (w := w3) (hk5 wr.heap.size (by omega) hne)).trans d2
          have H5 := Lib.hid hT5; clear hT5
          have HB5 : Hid (Below w.heap.size w w5) := Lib.hid (HB3.out.trans hb5)
          have hz5' : w.heap.size ≤ w5.heap.size := HB5.out.size
          clear hb5 hk5 H3 HB3 hne hz5
          by_cases h2 : kd = 2
          · subst h2
            have HSA' : Hid (stA (l.take (k + 1)) = xa ++ [pa]) := Lib.hid (by rw [HSA.out]; simp [stA])
            have HSB' : Hid (stB (l.take (k + 1)) = xb) := Lib.hid (by rw [HSB.out]; simp [stB])
            go_wp2_with (at_builtin; refine wpList_append_run (.tmp 25) (.tmp 28) 59 _ _ _ _ HR.out rfl rfl rfl rfl ?_)
            go_roundg (n - (k + 1))
            case measure => omega
            case rel => exact ⟨k + 1, rfl, by omega, by omega, Lib.hid (by rw [HSA'.out, HSB'.out]; exact H5.out), HFn, HB5⟩
          · have HSA' : Hid (stA (l.take (k + 1)) = xa ++ [pa]) := Lib.hid (by rw [HSA.out]; simp [stA, h3])
            have HSB' : Hid (stB (l.take (k + 1)) = xb ++ [pb]) := Lib.hid (by rw [HSB.out]; simp [stB, h2])
            obtain ⟨v6, w6, hrun6, hT6, hb6, _, _⟩ := Two.append H5.out.swap pb hz5' (by omega)
            have HR6 := Lib.hid hrun6; clear hrun6
            have H6 := Lib.hid hT6.swap; clear hT6
            have HB6 : Hid (Below w.heap.size w w6) := Lib.hid (HB5.out.trans hb6); clear hb6
            clear hz5'
            go_wp2_with (at_builtin; first | refine wpList_append_run (.tmp 25) (.tmp 28) 59 _ _ _ _ HR.out rfl rfl rfl rfl ?_ | refine wpList_append_run (.tmp 33) (.tmp 36) 59 _ _ _ _ HR6.out rfl rfl rfl rfl ?_)
            go_roundg (n - (k + 1))
            case measure => omega
            case rel => exact ⟨k + 1, rfl, by omega, by omega, Lib.hid (by rw [HSA'.out, HSB'.out]; exact H6.out), HFn, HB6⟩
    · obtain rfl : k = n := by omega
      have H2' := H2.out
      have hF := HF.out
      rw [List.take_of_length_le (by rw [HN.out]; exact Nat.le_refl _)] at H2' hF
      have hgd := good_all l hF
      have la := stA_len l
      have lb := stB_len l
      rw [HN.out] at la lb
      have ra1 := Runs.of_own H2'.1
      have rb1 := Runs.of_own H2'.2.1
      have ta := encode_any u5 (stA l) wr ra1 (by omega) FA.out
      have RB := Lib.hid rb1; clear rb1
      have tb := fun (w' : World) (hb : Below wr.heap.size wr w') => encode_any u6 (stB l) w' (RB.out.below hb) (by omega) FB.out
      have TBB := Lib.hid tb; clear tb ra1 H2 H2' la lb hF
      unfold encErr at ta TBB
      cases hA : allRunes (stA l) with
      | false =>
        have G0 : l.all stGood = false := by rw [hgd, hA]; rfl
        have hra : ra = [] := by rw [← HRA.out, readA, G0]; rfl
        have hrb : rb = [] := by rw [← HRB.out, readB, G0]; rfl
        have her : er = 7 := by rw [← HER.out, stErr, G0]; rfl
        subst hra hrb her
        rw [hA] at ta
        obtain ⟨ea, hea⟩ : ∃ e, encS (stA l) = e := ⟨_, rfl⟩
        obtain ⟨eb, heb⟩ : ∃ e, encS (stB l) = e := ⟨_, rfl⟩
        obtain ⟨er2, her2⟩ : ∃ e : Int, (if allRunes (stB l) = true then (0 : Int) else 3) = e := ⟨_, rfl⟩
        rw [hea] at ta
        simp only [heb, her2] at TBB
        simp only [Bool.false_eq_true, if_false] at ta
        clear G0 hgd hA hea heb HRA HRB HER her2
        go_wp2_with fail
        refine ta.mono ?_
        rintro e w5 ⟨rfl, b5⟩
        have t2 := TBB.out w5 b5
        have B5 := Lib.hid b5; clear b5 ta
        go_wp2_with fail
        refine t2.mono ?_
        rintro e w6 ⟨rfl, b6⟩
        have B6 := Lib.hid b6; clear b6 t2
        go_wp2
        refine bodyPost_ret (v := .tuple #[.string ⟨#[]⟩, .string ⟨#[]⟩, .int .i64 7]) (by simp [results, Tryz.results74, go_sem]) rfl ⟨rfl, ?_⟩
        exact HB.out.trans ((B5.out.mono HB.out.size).trans (B6.out.mono (Nat.le_trans HB.out.size B5.out.size)))
      | true =>
        rw [hA] at ta
        cases hB : allRunes (stB l) with
        | false =>
          have G0 : l.all stGood = false := by rw [hgd, hA, hB]; rfl
          have hra : ra = [] := by rw [← HRA.out, readA, G0]; rfl
          have hrb : rb = [] := by rw [← HRB.out, readB, G0]; rfl
          have her : er = 7 := by rw [← HER.out, stErr, G0]; rfl
          subst hra hrb her
          rw [hB] at TBB
          obtain ⟨ea, hea⟩ : ∃ e, encS (stA l) = e := ⟨_, rfl⟩
          obtain ⟨eb, heb⟩ : ∃ e, encS (stB l) = e := ⟨_, rfl⟩
          rw [hea] at ta
          simp only [heb, Bool.false_eq_true, if_false] at TBB
          simp only [if_true] at ta
          clear G0 hgd hA hB hea heb HRA HRB HER
          go_wp2_with fail
          refine ta.mono ?_
          rintro e w5 ⟨rfl, b5⟩
          have t2 := TBB.out w5 b5
          have B5 := Lib.hid b5; clear b5 ta
          go_wp2_with fail
          refine t2.mono ?_
          rintro e w6 ⟨rfl, b6⟩
          have B6 := Lib.hid b6; clear b6 t2
          go_wp2
          refine bodyPost_ret (v := .tuple #[.string ⟨#[]⟩, .string ⟨#[]⟩, .int .i64 7]) (by simp [results, Tryz.results74, go_sem]) rfl ⟨rfl, ?_⟩
          exact HB.out.trans ((B5.out.mono HB.out.size).trans (B6.out.mono (Nat.le_trans HB.out.size B5.out.size)))
        | true =>
          have G0 : l.all stGood = true := by rw [hgd, hA, hB]; rfl
          have hra : encS (stA l) = ra := by rw [← HRA.out, readA, G0]; rfl
          have hrb : encS (stB l) = rb := by rw [← HRB.out, readB, G0]; rfl
          have her : er = 0 := by rw [← HER.out, stErr, G0]; rfl
          subst her
          rw [hB] at TBB
          rw [hra] at ta
          simp only [hrb, if_true] at TBB
          simp only [if_true] at ta
          clear G0 hgd hA hB hra hrb HRA HRB HER
          go_wp2_with fail
          refine ta.mono ?_
          rintro e w5 ⟨rfl, b5⟩
          have t2 := TBB.out w5 b5
          have B5 := Lib.hid b5; clear b5 ta
          go_wp2_with fail
          refine t2.mono ?_
          rintro e w6 ⟨rfl, b6⟩
          have B6 := Lib.hid b6; clear b6 t2
          go_wp2
          refine bodyPost_ret (v := .tuple #[.string ⟨ra.toArray⟩, .string ⟨rb.toArray⟩, .int .i64 0]) (by simp [results, Tryz.results74, go_sem]) rfl ⟨rfl, ?_⟩
          exact HB.out.trans ((B5.out.mono HB.out.size).trans (B6.out.mono (Nat.le_trans HB.out.size B5.out.size)))

set_option maxRecDepth 100000 in
set_option maxHeartbeats 4000000 in
theorem check_any (l : List St) (hl : l.length ≤ 1000000) (hfit : stFit l) : CheckAt l := by
  intro w u hO hu
  have c := read_any l hl hfit w u hO hu
  obtain ⟨ra, hra⟩ : ∃ r, readA l = r := ⟨_, rfl⟩
  obtain ⟨rb, hrb⟩ : ∃ r, readB l = r := ⟨_, rfl⟩
  obtain ⟨er, her⟩ : ∃ r, stErr l = r := ⟨_, rfl⟩
  rw [hra, hrb, her] at c
  rw [her]
  clear hra hrb her hfit hO
  obtain ⟨A, cc, rfl, _, _, _⟩ := hu
  go_enter Tryz.func51, Tryz.ntmps51
  go_wp2_with fail
  refine c.mono ?_
  rintro e w1 ⟨rfl, b1⟩
  have B1 := Lib.hid b1; clear b1 c
  go_wp2
  go_ret
  exact ⟨rfl, B1.out⟩
end Go.Proofs.YtnognphjndpgkaaGreatDoor

/- align.Cost: how many steps aren't matches. -/
namespace Go.Proofs.YtnognphjndpgkaaGreatDoor
open Go.RowKit Go.Shelf

end Go.Proofs.YtnognphjndpgkaaGreatDoor

/- align.Steps at any two texts; the examples of layer 4. -/
namespace Go.Proofs.YtnognphjndpgkaaGreatDoor
open Go.RowKit Go.Shelf

theorem tokErr2_parts {s t : List UInt8} (h2 : tokErr2 s t = 0) : tokErr s = 0 ∧ tokErr t = 0 := by
  unfold tokErr2 at h2
  by_cases h1 : tokErr s = 0
  · rw [if_pos h1] at h2; exact ⟨h1, h2⟩
  · rw [if_neg h1] at h2; exact absurd h2 h1
theorem tokErr2_of {s t : List UInt8} (h1 : tokErr s = 0) (h2 : tokErr t = 0) : tokErr2 s t = 0 := by rw [tokErr2, if_pos h1, h2]

set_option maxRecDepth 100000 in
set_option maxHeartbeats 4000000 in
theorem steps_any (s t : ByteArray) (hs : s.size * 4 ≤ 140737488355328) (ht : t.size * 4 ≤ 140737488355328) : StepsAt s t := by
  intro w h
  by_cases h2 : tokErr2 s.data.toList t.data.toList = 0
  · obtain ⟨h1, h3⟩ := tokErr2_parts h2
    rw [h2, stepsS, if_pos h2]
    exact steps_ok s t w h hs ht h1 h3
  · have c := lay_bad s t w h hs ht h2
    have e3 : stepsS s.data.toList t.data.toList = [] := by rw [stepsS, if_neg h2]
    rw [e3]
    clear e3
    obtain ⟨er, he⟩ : ∃ er, tokErr2 s.data.toList t.data.toList = er := ⟨_, rfl⟩
    rw [he] at h2 c ⊢
    clear he
    have C := Lib.hid c; clear c
    go_enter Tryz.func32, Tryz.ntmps32
    go_wp2_with fail
    refine C.out.mono ?_
    rintro e w1 ⟨rfl, B1⟩
    go_wp2
    go_ret2
    exact ⟨_, rfl, StRuns.nil_ _, B1.out.alloc B1.out.size _⟩

theorem ex_steps : stepsS [114, 110] [109] = [(2, 114, 0), (1, 110, 109)] ∧ tokErr2 [114, 110] [109] = 0 := by
  have e1 : tokErr [114, 110] = 0 := by decide +kernel
  have e2 : tokErr [109] = 0 := by decide +kernel
  have e3 : tokErr2 [114, 110] [109] = 0 := tokErr2_of e1 e2
  have r1 : tokRunes [114, 110] = [114, 110] := by decide +kernel
  have r2 : tokRunes [109] = [109] := by decide +kernel
  refine ⟨?_, e3⟩
  rw [stepsS, if_pos e3, r1, r2]
  have l1 : levR [110, 114] [109] = 2 := by simp [levR_cons, levR_nil, levR_nil']
  have l2 : levR [114] [] = 1 := by simp [levR_nil']
  show (pathR [110, 114] [109]).reverse = _
  rw [pathR_sub (by decide) (by rw [l1, l2]), pathR, pathR]
  rfl
theorem ex_dist : distS [97, 98] [98] = 1 ∧ tokErr2 [97, 98] [98] = 0 := by
  have e1 : tokErr [97, 98] = 0 := by decide +kernel
  have e2 : tokErr [98] = 0 := by decide +kernel
  have e3 : tokErr2 [97, 98] [98] = 0 := tokErr2_of e1 e2
  have r1 : tokRunes [97, 98] = [97, 98] := by decide +kernel
  have r2 : tokRunes [98] = [98] := by decide +kernel
  refine ⟨?_, e3⟩
  rw [distS, if_pos e3, r1, r2]
  show levR [98, 97] [98] = 1
  rw [levR_same, levR_nil']
  rfl

end Go.Proofs.YtnognphjndpgkaaGreatDoor

/- The steps of two tokens, plain: what they are of, how many aren't matches; whatever steps are no fewer. -/
namespace Go.Proofs.YtnognphjndpgkaaGreatDoor
open Go.RowKit Go.Shelf

theorem stA_rev (l : List St) : stA l.reverse = (stA l).reverse := by
  induction l with
  | nil => rfl
  | cons s l ih =>
    rw [List.reverse_cons, stA_append, ih]
    simp only [stA]
    split <;> simp
theorem stB_rev (l : List St) : stB l.reverse = (stB l).reverse := by
  induction l with
  | nil => rfl
  | cons s l ih =>
    rw [List.reverse_cons, stB_append, ih]
    simp only [stB]
    split <;> simp
theorem stC_rev (l : List St) : stC l.reverse = stC l := by
  induction l with
  | nil => rfl
  | cons s l ih =>
    rw [List.reverse_cons, stC_append, ih]
    simp only [stC]
    omega
theorem form_ok (s : St) (h : stOK s) : stForm s = true := by
  unfold stForm
  rcases h with h | h | h | h
  · simp [h.1, h.2]
  · simp [h.1, h.2]
  · simp [h.1, h.2]
  · simp [h.1, h.2]
theorem ok_form (s : St) (h : stForm s = true) : stOK s := by
  unfold stForm at h
  simp only [Bool.or_eq_true, decide_eq_true_eq] at h
  rcases h with ((h | h) | h) | h
  · exact .inl h
  · exact .inr (.inl h)
  · exact .inr (.inr (.inl h))
  · exact .inr (.inr (.inr h))
theorem good_fit (l : List St) (h : l.all stGood = true) : stFit l := by
  intro s hs
  have := List.all_eq_true.1 h s hs
  unfold stGood at this
  simp only [Bool.and_eq_true] at this
  have h1 := rune_bd this.1.1
  have h2 := rune_bd this.1.2
  exact ⟨by omega, by omega⟩
theorem good_ok (l : List St) (h : l.all stGood = true) : ∀ s ∈ l, stOK s := by
  intro s hs
  have := List.all_eq_true.1 h s hs
  unfold stGood at this
  rw [Bool.and_eq_true] at this
  exact ok_form s this.2

theorem tok_runes {s : List UInt8} (h : tokErr s = 0) : tokRunes s = items s ∧ Lib.validD s = true ∧ (∀ r ∈ tokRunes s, Lib.validRune r = true) ∧ encL (tokRunes s) = s := by
  have e : tokRunes s = items s := by rw [tokRunes, if_pos h]
  have hv : Lib.validD s = true := by
    cases hv : Lib.validD s with
    | true => rfl
    | false => rw [tokErr, hv] at h; cases h
  exact ⟨e, hv, by rw [e]; exact items_runes s hv, by rw [e]; exact enc_items s hv⟩
theorem allRunes_of {l : List Int} (h : ∀ r ∈ l, Lib.validRune r = true) : allRunes l = true := List.all_eq_true.2 h

/-- All of two tokens' steps. -/
theorem steps_facts (s t : List UInt8) (h : tokErr2 s t = 0) : readA (stepsS s t) = s ∧ readB (stepsS s t) = t ∧ stErr (stepsS s t) = 0 ∧ stC (stepsS s t) = distS s t ∧ stFit (stepsS s t) ∧ (stepsS s t).length ≤ 128 ∧ 0 < (stepsS s t).length := by
  obtain ⟨h1, h2⟩ := tokErr2_parts h
  obtain ⟨_, _, r1, e1⟩ := tok_runes h1
  obtain ⟨_, _, r2, e2⟩ := tok_runes h2
  have p := pathR_all (tokRunes s).reverse (tokRunes t).reverse
  have hs : stepsS s t = (pathR (tokRunes s).reverse (tokRunes t).reverse).reverse := by rw [stepsS, if_pos h]
  have hd : distS s t = levR (tokRunes s).reverse (tokRunes t).reverse := by rw [distS, if_pos h]
  have a1 : stA (stepsS s t) = tokRunes s := by rw [hs, stA_rev, p.1, List.reverse_reverse]
  have a2 : stB (stepsS s t) = tokRunes t := by rw [hs, stB_rev, p.2.1, List.reverse_reverse]
  have a3 : stC (stepsS s t) = distS s t := by rw [hs, stC_rev, p.2.2.1, hd]
  have hf : (stepsS s t).all stForm = true := List.all_eq_true.2 (fun q hq => form_ok q (p.2.2.2 q (by rw [hs] at hq; exact List.mem_reverse.1 hq)))
  have hg : (stepsS s t).all stGood = true := by rw [good_all _ hf, a1, a2, allRunes_of r1, allRunes_of r2]; rfl
  have hl := pathR_length (tokRunes s).reverse (tokRunes t).reverse
  have l1 := tok_len h1
  have l2 := tok_len h2
  rw [List.length_reverse, List.length_reverse] at hl
  refine ⟨?_, ?_, ?_, a3, good_fit _ hg, ?_, ?_⟩
  · rw [readA, if_pos hg, a1, encS, if_pos (allRunes_of r1), e1]
  · rw [readB, if_pos hg, a2, encS, if_pos (allRunes_of r2), e2]
  · rw [stErr, if_pos hg]
  · rw [hs, List.length_reverse]; omega
  · have hb := stA_len (stepsS s t)
    rw [a1] at hb
    omega

/-- No steps of two tokens are fewer than these are apart. -/
theorem steps_least (l : List St) (h : l.all stGood = true) (h2 : tokErr2 (readA l) (readB l) = 0) : distS (readA l) (readB l) ≤ stC l := by
  obtain ⟨h1, h3⟩ := tokErr2_parts h2
  have hok := good_ok l h
  have hf : l.all stForm = true := List.all_eq_true.2 (fun q hq => form_ok q (hok q hq))
  have hg := good_all l hf
  rw [h] at hg
  have hg' : allRunes (stA l) = true ∧ allRunes (stB l) = true := by simpa using hg.symm
  have ea : readA l = encL (stA l) := by rw [readA, if_pos h, encS, if_pos hg'.1]
  have eb : readB l = encL (stB l) := by rw [readB, if_pos h, encS, if_pos hg'.2]
  have ia := items_of_enc (stA l) (List.all_eq_true.1 hg'.1)
  have ib := items_of_enc (stB l) (List.all_eq_true.1 hg'.2)
  have ta : tokRunes (readA l) = stA l := by rw [(tok_runes h1).1, ea, ia.1]
  have tb : tokRunes (readB l) = stB l := by rw [(tok_runes h3).1, eb, ib.1]
  rw [distS, if_pos h2, ta, tb, ← stA_rev, ← stB_rev, ← stC_rev]
  exact stC_ge l.reverse (fun s hs => hok s (List.mem_reverse.1 hs))
theorem encL_size (l : List Int) : (encL l).length ≤ l.length * 4 := by
  induction l with
  | nil => simp [encL]
  | cons r l ih =>
    rw [encL_cons, List.length_append, List.length_cons]
    have := (encodeRune_len r).2
    omega
theorem read_size (l : List St) : (readA l).length ≤ l.length * 4 ∧ (readB l).length ≤ l.length * 4 := by
  have h1 := encL_size (stA l)
  have h2 := encL_size (stB l)
  have h3 := stA_len l
  have h4 := stB_len l
  constructor
  · unfold readA encS
    split
    · split
      · omega
      · simp
    · simp
  · unfold readB encS
    split
    · split
      · omega
      · simp
    · simp
end Go.Proofs.YtnognphjndpgkaaGreatDoor

