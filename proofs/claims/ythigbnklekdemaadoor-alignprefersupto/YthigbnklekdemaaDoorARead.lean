/- What steps are of, as errataref04.Read tells it. -/
import Derived.Test.YthigbnklekdemaaDoorACheck2
namespace Go.Proofs.YthigbnklekdemaaDoor
open Go.RowKit Go.Shelf

set_option maxRecDepth 100000 in
set_option maxHeartbeats 1000000 in
theorem refText_any (u : Value) (l : List Int) (w : World) (hu : Runs w u l) (hlen : l.length * 4 + 4 ≤ 140737488355328) :
    Calls Tryd.prog 30 #[u] w fun e w' => e = .returned (.string ⟨(encS l).toArray⟩) ∧ Below w.heap.size w w' := by
  have C := Lib.hid (refEncode_any u l w hu hlen)
  go_enter Tryd.func30, Tryd.ntmps30
  go_wp2_with fail
  refine C.out.mono ?_
  rintro e w1 ⟨rfl, hb⟩
  go_wp2
  go_ret
  exact ⟨rfl, hb⟩

/-- Two rows of runes of the call's own, side by side. -/
def Two (w : World) (base : Nat) (a : Value) (xs : List Int) (b : Value) (ys : List Int) : Prop :=
  w.ownsRow base 21 1 a xs.length (xs.map (Value.int .i32)) ∧ w.ownsRow base 21 1 b ys.length (ys.map (Value.int .i32)) ∧ (a.ownBlock = none ∨ a.ownBlock ≠ b.ownBlock)
theorem own_lt {w : World} {base : Nat} {e : TypeId} {size n : Nat} {v : Value} {xs : List Value} (h : w.ownsRow base e size v n xs) : ∀ g, v.ownBlock = some g → g < w.heap.size := by
  intro g hg
  rcases h.2 with ⟨rfl, _⟩ | ⟨g', cap, cur, rfl, _, hh, _⟩
  · simp [Value.ownBlock] at hg
  · obtain rfl : g' = g := by simpa [Value.ownBlock] using hg
    exact (Array.getElem?_eq_some_iff.1 hh).1
theorem Two.swap {w : World} {base : Nat} {a b : Value} {xs ys : List Int} (h : Two w base a xs b ys) : Two w base b ys a xs := by
  refine ⟨h.2.1, h.1, ?_⟩
  rcases h.2.2 with h0 | h0
  · cases hb : b.ownBlock with
    | none => exact .inl rfl
    | some g => exact .inr (by rw [h0]; simp)
  · exact .inr (fun e => h0 e.symm)
theorem Two.alloc {w : World} {base : Nat} {a b : Value} {xs ys : List Int} (h : Two w base a xs b ys) (o : Obj) : Two (w.alloc o) base a xs b ys :=
  ⟨h.1.alloc o, h.2.1.alloc o, h.2.2⟩
/-- append(a, r). -/
theorem Two.append {w : World} {base : Nat} {a b : Value} {xs ys : List Int} (h : Two w base a xs b ys) (r : Int) (hbase : base ≤ w.heap.size) (hlen : (xs.length + 1) * 4 ≤ 140737488355328) :
    ∃ v' w', (Builtin.append_ #[37, 37] 37 #[a, .slice (some ⟨w.heap.size, 0, none⟩) 1 1]).run Tryd.prog (w.alloc (.cells #[.int .i32 r] 21)) = .ok v' w' ∧ Two w' base v' (xs ++ [r]) b ys ∧ Below base w w' ∧ w.heap.size ≤ w'.heap.size ∧ ∀ k, k < w.heap.size → a.ownBlock ≠ some k → w'.heap[k]? = w.heap[k]? := by
  have hba : Below w.heap.size w (w.alloc (.cells #[.int .i32 r] 21)) := (Below.refl _ _).alloc (Nat.le_refl _) _
  have h' := h.alloc (.cells #[.int .i32 r] 21)
  obtain ⟨v', w', hrun, h2, h3, h5⟩ := append_runs (w.alloc (.cells #[.int .i32 r] 21)) base a xs.length _ h'.1 _ [r] (runs_lit w r) (by simp; omega) (by simpa using hlen)
  refine ⟨v', w', hrun, ⟨by simpa using h2, h'.2.1.kept h3 h'.swap.2.2, ?_⟩, (hba.mono hbase).grown h3 (by simp; omega) (own_block h.1), Nat.le_trans hba.size h3.size, fun k hk hne => (h3.block k (by simp; omega) (fun e => hne e.symm)).trans (hba.block k hk)⟩
  rcases h5 with h5 | h5
  · rw [h5]; exact h.2.2
  · refine .inr ?_
    rw [h5]
    intro e
    have := own_lt h.2.1 _ e.symm
    simp at this
    omega

theorem stA_append (a b : List St) : stA (a ++ b) = stA a ++ stA b := by
  induction a with
  | nil => rfl
  | cons s a ih => simp only [List.cons_append, stA, ih]; split <;> rfl
theorem stB_append (a b : List St) : stB (a ++ b) = stB a ++ stB b := by
  induction a with
  | nil => rfl
  | cons s a ih => simp only [List.cons_append, stB, ih]; split <;> rfl
theorem stA_take (l : List St) (k : Nat) (hk : k < l.length) : stA (l.take (k + 1)) = stA (l.take k) ++ stA [l.getD k (0, 0, 0)] := by
  rw [List.take_add_one, stA_append]
  simp [List.getElem?_eq_getElem hk, List.getD_eq_getElem?_getD]
theorem stB_take (l : List St) (k : Nat) (hk : k < l.length) : stB (l.take (k + 1)) = stB (l.take k) ++ stB [l.getD k (0, 0, 0)] := by
  rw [List.take_add_one, stB_append]
  simp [List.getElem?_eq_getElem hk, List.getD_eq_getElem?_getD]
theorem stA_len (l : List St) : (stA l).length ≤ l.length := by
  induction l with
  | nil => simp [stA]
  | cons s l ih => simp only [stA]; split <;> simp <;> omega
theorem stB_len (l : List St) : (stB l).length ≤ l.length := by
  induction l with
  | nil => simp [stB]
  | cons s l ih => simp only [stB]; split <;> simp <;> omega

set_option maxRecDepth 100000 in
set_option maxHeartbeats 4000000 in
theorem refRead_ok (u : Value) (l : List St) (w : World) (hu : StRuns w u l) (hl : l.length ≤ 1000000) (hgood : l.all stGood = true) :
    Calls Tryd.prog 16 #[u] w fun e w' => e = .returned (.tuple #[.string ⟨(encS (stA l)).toArray⟩, .string ⟨(encS (stB l)).toArray⟩, .int .i64 0]) ∧ Below w.heap.size w w' := by
  have cc := refCheck_any u l w hu
  rw [hgood] at cc
  simp only [if_true] at cc
  clear hgood
  go_enter Tryd.func16, Tryd.ntmps16
  go_wp2_with fail
  refine cc.mono ?_
  rintro e w1 ⟨rfl, b1⟩
  have hu1 := hu.below b1
  have B1 := Lib.hid b1; clear b1 hu cc
  obtain ⟨A, c, rfl, hxc, ⟨hxm, _⟩, hxx⟩ := hu1
  unfold maxLen at hxm
  obtain ⟨n, hn⟩ : ∃ n, l.length = n := ⟨_, rfl⟩
  rw [hn] at hxc hxx hl ⊢
  have HN := Lib.hid hn; clear hn
  have HX := Lib.hid hxx; clear hxx
  go_wp2
  go_loopg [6, 7, 17] n (fun g s6 s7 s17 wr => ∃ k : Nat, s17 = .int .i64 k ∧ k ≤ n ∧ n - k ≤ g ∧ Hid (Two wr w1.heap.size s6 (stA (l.take k)) s7 (stB (l.take k))) ∧ Hid (Below w1.heap.size w1 wr))
  case atStart => exact ⟨0, rfl, by omega, by omega, Lib.hid ⟨World.ownsRow_nil _ _ _ _, World.ownsRow_nil _ _ _ _, .inl rfl⟩, Lib.hid (Below.refl _ _)⟩
  case round =>
    obtain ⟨k, rfl, hk, hg, H2, HB⟩ := hrel
    by_cases h : k < n
    · have h' : (k : Int) < (n : Int) := by omega
      obtain ⟨b, o, rfl, hb, hcell⟩ := HX.out (by omega)
      obtain ⟨e0, e1, e2⟩ := hcell k h
      clear hcell
      have HSA := Lib.hid (stA_take l k (by rw [HN.out]; exact h))
      have HSB := Lib.hid (stB_take l k (by rw [HN.out]; exact h))
      have la := stA_len (l.take k)
      have lb := stB_len (l.take k)
      rw [List.length_take] at la lb
      obtain ⟨⟨kd, ra, rb⟩, hp⟩ : ∃ p, l.getD k (0, 0, 0) = p := ⟨_, rfl⟩
      rw [hp] at e0 e1 e2 HSA HSB
      simp only at e0 e1 e2
      have f0 : wr.cell? ⟨b, o + k * 3, none⟩ = some (.int .i64 kd) := (HB.out.cell (show b < w1.heap.size from hb)).trans e0
      have f1 : wr.cell? ⟨b, o + k * 3 + 1, none⟩ = some (.int .i32 ra) := (HB.out.cell (show b < w1.heap.size from hb)).trans e1
      have f2 : wr.cell? ⟨b, o + k * 3 + 2, none⟩ = some (.int .i32 rb) := (HB.out.cell (show b < w1.heap.size from hb)).trans e2
      clear e0 e1 e2 hp
      obtain ⟨w3, hw3⟩ : ∃ w3, w3 = wr.alloc (.cells #[.int .i64 kd, .int .i32 ra, .int .i32 rb] 42) := ⟨_, rfl⟩
      have d0 : w3.cell? ⟨wr.heap.size, 0, none⟩ = some (.int .i64 kd) := by rw [hw3]; simp
      have d2 : w3.cell? ⟨wr.heap.size, 2, none⟩ = some (.int .i32 rb) := by rw [hw3]; simp
      have hz3 : w3.heap.size = wr.heap.size + 1 := by rw [hw3]; simp
      have H3 : Hid (Two w3 w1.heap.size u6 (stA (l.take k)) u7 (stB (l.take k))) := Lib.hid (by rw [hw3]; exact H2.out.alloc _)
      have HB3 : Hid (Below w1.heap.size w1 w3) := Lib.hid (by rw [hw3]; exact HB.out.alloc HB.out.size _)
      have hzb := HB.out.size
      have hne : u6.ownBlock ≠ some wr.heap.size := fun e => Nat.lt_irrefl _ (own_lt H2.out.1 _ e)
      obtain ⟨xa, hxa⟩ : ∃ xa, stA (l.take k) = xa := ⟨_, rfl⟩
      obtain ⟨xb, hxb⟩ : ∃ xb, stB (l.take k) = xb := ⟨_, rfl⟩
      rw [hxa] at H3 HSA la
      rw [hxb] at H3 HSB lb
      clear hxa hxb H2
      by_cases h3 : kd = 3
      · subst h3
        have HSA' : Hid (stA (l.take (k + 1)) = xa) := Lib.hid (by rw [HSA.out]; simp [stA])
        have HSB' : Hid (stB (l.take (k + 1)) = xb ++ [rb]) := Lib.hid (by rw [HSB.out]; simp [stB])
        obtain ⟨v5, w5, hrun, hT5, hb5, _, _⟩ := Two.append H3.out.swap rb (by omega) (by omega)
        rw [hz3, hw3] at hrun
        have HR := Lib.hid hrun; clear hrun
        have H5 := Lib.hid hT5.swap; clear hT5
        have HB5 : Hid (Below w1.heap.size w1 w5) := Lib.hid (HB3.out.trans hb5); clear hb5
        clear d0 d2 hz3 H3 HB3 hne hw3
        go_wp2_with (at_builtin; refine wpList_append_run (.tmp 32) (.tmp 35) 37 _ _ _ _ HR.out rfl rfl rfl rfl ?_)
        go_roundg (n - (k + 1))
        case measure => omega
        case rel => exact ⟨k + 1, rfl, by omega, by omega, Lib.hid (by rw [HSA'.out, HSB'.out]; exact H5.out), HB5⟩
      · obtain ⟨v5, w5, hrun, hT5, hb5, hz5, hk5⟩ := Two.append H3.out ra (by omega) (by omega)
        rw [hz3, hw3] at hrun
        have HR := Lib.hid hrun; clear hrun
        have g0 : w5.cell? ⟨wr.heap.size, 0, none⟩ = some (.int .i64 kd) := (World.cell?_of_block (w := w3) (hk5 wr.heap.size (by omega) hne)).trans d0
        have g2 : w5.cell? ⟨wr.heap.size, 2, none⟩ = some (.int .i32 rb) := (World.cell?_of_block (w := w3) (hk5 wr.heap.size (by omega) hne)).trans d2
        have H5 := Lib.hid hT5; clear hT5
        have HB5 : Hid (Below w1.heap.size w1 w5) := Lib.hid (HB3.out.trans hb5)
        have hz5' : w1.heap.size ≤ w5.heap.size := HB5.out.size
        clear hb5 hk5 d0 d2 hz3 H3 HB3 hne hw3 hz5
        by_cases h2 : kd = 2
        · subst h2
          have HSA' : Hid (stA (l.take (k + 1)) = xa ++ [ra]) := Lib.hid (by rw [HSA.out]; simp [stA])
          have HSB' : Hid (stB (l.take (k + 1)) = xb) := Lib.hid (by rw [HSB.out]; simp [stB])
          go_wp2_with (at_builtin; refine wpList_append_run (.tmp 24) (.tmp 27) 37 _ _ _ _ HR.out rfl rfl rfl rfl ?_)
          go_roundg (n - (k + 1))
          case measure => omega
          case rel => exact ⟨k + 1, rfl, by omega, by omega, Lib.hid (by rw [HSA'.out, HSB'.out]; exact H5.out), HB5⟩
        · have HSA' : Hid (stA (l.take (k + 1)) = xa ++ [ra]) := Lib.hid (by rw [HSA.out]; simp [stA, h3])
          have HSB' : Hid (stB (l.take (k + 1)) = xb ++ [rb]) := Lib.hid (by rw [HSB.out]; simp [stB, h2])
          obtain ⟨v6, w6, hrun6, hT6, hb6, _, _⟩ := Two.append H5.out.swap rb hz5' (by omega)
          have HR6 := Lib.hid hrun6; clear hrun6
          have H6 := Lib.hid hT6.swap; clear hT6
          have HB6 : Hid (Below w1.heap.size w1 w6) := Lib.hid (HB5.out.trans hb6); clear hb6
          clear hz5'
          go_wp2_with (at_builtin; first | refine wpList_append_run (.tmp 24) (.tmp 27) 37 _ _ _ _ HR.out rfl rfl rfl rfl ?_ | refine wpList_append_run (.tmp 32) (.tmp 35) 37 _ _ _ _ HR6.out rfl rfl rfl rfl ?_)
          go_roundg (n - (k + 1))
          case measure => omega
          case rel => exact ⟨k + 1, rfl, by omega, by omega, Lib.hid (by rw [HSA'.out, HSB'.out]; exact H6.out), HB6⟩
    · obtain rfl : k = n := by omega
      have H2' := H2.out
      rw [List.take_of_length_le (by rw [HN.out]; exact Nat.le_refl _)] at H2'
      have la := stA_len l
      have lb := stB_len l
      rw [HN.out] at la lb
      have ra := Runs.of_own H2'.1
      have rb := Runs.of_own H2'.2.1
      have ta := refText_any u6 (stA l) wr ra (by omega)
      have RB := Lib.hid rb; clear rb
      have tb := fun (w' : World) (hb : Below wr.heap.size wr w') => refText_any u7 (stB l) w' (RB.out.below hb) (by omega)
      have TBB := Lib.hid tb; clear tb ra H2 H2' la lb
      obtain ⟨ea, hea⟩ : ∃ e, encS (stA l) = e := ⟨_, rfl⟩
      obtain ⟨eb, heb⟩ : ∃ e, encS (stB l) = e := ⟨_, rfl⟩
      rw [hea] at ta
      simp only [heb] at TBB
      go_wp2_with fail
      refine ta.mono ?_
      rintro e w5 ⟨rfl, b5⟩
      have t2 := TBB.out w5 b5
      have B5 := Lib.hid b5; clear b5 ta
      go_wp2_with fail
      refine t2.mono ?_
      rintro e w6 ⟨rfl, b6⟩
      have B6 := Lib.hid b6; clear b6 t2
      go_wp2
      refine bodyPost_ret (v := .tuple #[.string ⟨ea.toArray⟩, .string ⟨eb.toArray⟩, .int .i64 0]) (by simp [results, Tryd.results16, go_sem]) rfl ⟨by rw [hea, heb], ?_⟩
      exact B1.out.trans ((HB.out.mono B1.out.size).trans ((B5.out.mono (Nat.le_trans B1.out.size HB.out.size)).trans (B6.out.mono (Nat.le_trans B1.out.size (Nat.le_trans HB.out.size B5.out.size)))))

set_option maxRecDepth 100000 in
set_option maxHeartbeats 4000000 in
theorem refRead_bad (u : Value) (l : List St) (w : World) (hu : StRuns w u l) (hgood : l.all stGood = false) :
    Calls Tryd.prog 16 #[u] w fun e w' => e = .returned (.tuple #[.string ⟨#[]⟩, .string ⟨#[]⟩, .int .i64 7]) ∧ Below w.heap.size w w' := by
  have cc := refCheck_any u l w hu
  rw [hgood] at cc
  have c7 : Calls Tryd.prog 18 #[u] w fun e w' => e = .returned (.int .i64 7) ∧ Below w.heap.size w w' := cc
  clear cc
  go_enter Tryd.func16, Tryd.ntmps16
  go_wp2_with fail
  refine c7.mono ?_
  rintro e w1 ⟨rfl, b1⟩
  have B1 := Lib.hid b1; clear b1 c7
  go_wp2
  exact bodyPost_ret (v := .tuple #[.string ⟨#[]⟩, .string ⟨#[]⟩, .int .i64 7]) (by simp [results, Tryd.results16, go_sem]) rfl ⟨rfl, B1.out⟩
end Go.Proofs.YthigbnklekdemaaDoor
