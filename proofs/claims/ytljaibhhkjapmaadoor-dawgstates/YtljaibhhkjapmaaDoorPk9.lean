/- Texts that several proofs of this seat share, one behind the other: ZBy ZVal ZSpell XFrom UPlain. -/
import Derived.Test.YtljaibhhkjapmaaDoorPk8
import Derived.Test.YtljaibhhkjapmaaDoorPk6
import Derived.Test.YtljaibhhkjapmaaDoorPk4
import Derived.Test.YtljaibhhkjapmaaDoorPk3
import Derived.RangeFuncNested
import Derived.RangeFuncLeaves
import Derived.WalkMore
import Derived.Test.YtljaibhhkjapmaaDoorPk1
/- Dawg.by, last, check, Next, Ends: what they answer. -/
namespace Go.Proofs.YtljaibhhkjapmaaDoor
open Go.RowKit Go.Shelf Go.Lib
attribute [local go_sem] Oper.semAt_some
set_option linter.unusedSimpArgs false
set_option linter.unusedVariables false

/-- A block of cells. -/
def Bx (w : World) (B : Nat) (t : TypeId) (cs : Array Value) : Prop := w.heap[B]? = some (.cells cs t)
theorem Bx.below {w w' : World} {B : Nat} {t : TypeId} {cs : Array Value} (h : Bx w B t cs) (hb : Below w.heap.size w w') : Bx w' B t cs := (hb.block B (Array.getElem?_eq_some_iff.1 h).1).trans h
theorem Bx.cell {w : World} {B : Nat} {t : TypeId} {cs : Array Value} (h : Bx w B t cs) {j : Nat} {v : Value} (hj : cs[j]? = some v) : w.cell? ⟨B, j, none⟩ = some v := by rw [cell_of_row _ _ _ _ _ (0, 0) h]; exact hj
theorem Bx.thaw {w : World} {B : Nat} {t : TypeId} {cs : Array Value} (h : Bx w B t cs) (j : Nat) : w.frozen? ⟨B, j, none⟩ = false := by
  unfold Bx at h
  simp [World.frozen?, h]
theorem Bx.lt {w : World} {B : Nat} {t : TypeId} {cs : Array Value} (h : Bx w B t cs) : B < w.heap.size := (Array.getElem?_eq_some_iff.1 h).1
theorem Bx.three {w : World} {B : Nat} {t : TypeId} {a b c : Value} (h : Bx w B t #[a, b, c]) : w.cell? ⟨B, 0, none⟩ = some a ∧ w.cell? ⟨B, 1, none⟩ = some b ∧ w.cell? ⟨B, 2, none⟩ = some c := ⟨h.cell rfl, h.cell rfl, h.cell rfl⟩
theorem Bx.two {w : World} {B : Nat} {t : TypeId} {a b : Value} (h : Bx w B t #[a, b]) : w.cell? ⟨B, 0, none⟩ = some a ∧ w.cell? ⟨B, 1, none⟩ = some b := ⟨h.cell rfl, h.cell rfl⟩
theorem bx_new (w : World) (t : TypeId) (cs : Array Value) : Bx (w.alloc (.cells cs t)) w.heap.size t cs := heap_alloc_new w _
theorem bel_set {n : Nat} {w w' : World} (h : Below n w w') (hn : n ≤ w'.heap.size) (B j : Nat) (v : Value) (hB : n ≤ B) : Below n w (w'.setCell ⟨B, j, none⟩ v) :=
  h.grown (z_grown_set w' B j v) hn (fun k e => by cases e; exact hB)

theorem Bx.set3 {w : World} {B : Nat} {t : TypeId} {a b c : Value} (h : Bx w B t #[a, b, c]) (x y z : Value) : Bx (((w.setCell ⟨B, 0, none⟩ x).setCell ⟨B, 1, none⟩ y).setCell ⟨B, 2, none⟩ z) B t #[x, y, z] := z_set_cells (z_set_cells (z_set_cells h 0 x) 1 y) 2 z
theorem bel_set3 {n : Nat} {w w' : World} (h : Below n w w') (hn : n ≤ w'.heap.size) (B : Nat) (x y z : Value) (hB : n ≤ B) : Below n w (((w'.setCell ⟨B, 0, none⟩ x).setCell ⟨B, 1, none⟩ y).setCell ⟨B, 2, none⟩ z) :=
  bel_set (bel_set (bel_set h hn B 0 x hB) (by simpa using hn) B 1 y hB) (by simpa using hn) B 2 z hB
/-- The edge that leads on by a rune, or nothing. -/
def byE (Q : List Rst) (x : Rst) (r : Int) : Edg := if r ∈ hdsR x then (r, Q.idxOf (behR x r), ahdR x r) else (0, 0, 0)
theorem byP (Q : List Rst) {x : Rst} (hx : x.Pairwise (· < ·)) (r : Int) : posI (hdsR x) r ≤ (edE Q x).length ∧ (∀ j y, j < posI (hdsR x) r → (edE Q x)[j]? = some y → keyR y < r) ∧ (∀ j y, posI (hdsR x) r ≤ j → (edE Q x)[j]? = some y → ¬ keyR y < r) ∧
    eAt keyR (edE Q x) (posI (hdsR x) r) r = decide (r ∈ hdsR x) ∧ (r ∈ hdsR x → (edE Q x)[posI (hdsR x) r]? = some (byE Q x r)) := by
  have hr := hdsR_rising hx
  obtain ⟨h1, h2⟩ := posI_spec hr r
  have h3 := posI_at hr r
  refine ⟨by rw [edE_len]; exact posI_le _ _, fun j y hj hy => ?_, fun j y hj hy => ?_, ?_, fun hm => ?_⟩
  · rw [edE_key] at hy
    obtain ⟨a, ha, rfl⟩ := Option.map_eq_some_iff.1 hy
    exact h1 j a hj ha
  · rw [edE_key] at hy
    obtain ⟨a, ha, rfl⟩ := Option.map_eq_some_iff.1 hy
    have := h2 j a hj ha
    show ¬ a < r
    omega
  · unfold eAt
    rw [edE_key]
    cases hp : (hdsR x)[posI (hdsR x) r]? with
    | none =>
      rw [hp] at h3
      have : ¬ r ∈ hdsR x := fun e => by have := h3.1 e; cases this
      simp [this]
    | some a =>
      rw [hp] at h3
      show decide (a = r) = _
      by_cases e : a = r
      · rw [decide_eq_true e, decide_eq_true (h3.2 (by rw [e]))]
      · rw [decide_eq_false e, decide_eq_false (fun k => e (Option.some.inj (h3.1 k)))]
  · rw [edE_key, h3.1 hm]
    unfold byE
    rw [if_pos hm]
    rfl

set_option maxRecDepth 100000 in
set_option maxHeartbeats 4000000 in
theorem by_any (w : World) (d : Nat) (Q : List Rst) (L : List Wrd) (h : DgAt w d Q L) (hk : DgOk Q L) (i : Nat) (x : Rst) (hx : Q[i]? = some x) (hxr : x.Pairwise (· < ·)) (r : Int) :
    Calls Tryd.prog 51 #[.pointer (some ⟨d, 0, none⟩), .agg (stCell (staL Q i)).toArray, .int .i32 r] w fun e w' => e = .returned (.tuple #[.agg (edCell (byE Q x r)).toArray, .bool (decide (r ∈ hdsR x))]) ∧ Below w.heap.size w w' := by
  have CO := Lib.hid (fun w' (hb : Below w.heap.size w w') => out_any w' d Q L (h.below hb) hk i x hx)
  obtain ⟨⟨s1, s2, s3⟩, hst⟩ : ∃ z, staL Q i = z := ⟨_, rfl⟩
  rw [hst] at CO ⊢
  simp only [stCell] at CO ⊢
  show Calls Tryd.prog _ _ w fun e w' => e = .returned (.tuple #[.agg #[.int .i32 (byE Q x r).1, .int .i32 ((byE Q x r).2.1 : Int), .int .i32 ((byE Q x r).2.2 : Int)], _]) ∧ _
  obtain ⟨p1, p2, p3, p4, p5⟩ := byP Q hxr r
  have hem : (edE Q x).length ≤ 6000000 := by
    have h1 := edK_succ hx
    have h2 := (edK_le (Q := Q) (List.getElem?_eq_some_iff.1 hx).1).2
    rw [h1, List.length_append] at h2
    have := hk.em
    omega
  obtain ⟨m, hm⟩ : ∃ z, posI (hdsR x) r = z := ⟨_, rfl⟩
  rw [hm] at p1 p2 p3 p4 p5
  have hbz : ¬ r ∈ hdsR x → byE Q x r = (0, 0, 0) := fun e => by unfold byE; rw [if_neg e]
  obtain ⟨⟨b1, b2, b3⟩, hbe⟩ : ∃ z, byE Q x r = z := ⟨_, rfl⟩
  rw [hbe] at p5 hbz ⊢
  have CB := Lib.hid (fun w' A c (hu : GRuns edCell 3 w' (.slice A (edE Q x).length c) (edE Q x)) => ebsR_any A (edE Q x).length c (edE Q x) r w' rfl hu hem m p1 p2 p3)
  rw [p4] at CB
  obtain ⟨fd, hfd⟩ : ∃ z, decide (r ∈ hdsR x) = z := ⟨_, rfl⟩
  rw [hfd] at CB ⊢
  have hfd1 : fd = true → (edE Q x)[m]? = some (b1, b2, b3) := fun e => p5 (of_decide_eq_true (hfd.trans e))
  have hfd0 : fd = false → (b1, b2, b3) = ((0, 0, 0) : Edg) := fun e => hbz (of_decide_eq_false (hfd.trans e))
  obtain ⟨E, hE⟩ : ∃ z, edE Q x = z := ⟨_, rfl⟩
  obtain ⟨n, hn⟩ : ∃ z, E.length = z := ⟨_, rfl⟩
  rw [hE] at CO CB p1 hfd1
  rw [hn] at CB p1
  have HF1 := Lib.hid hfd1; have HF0 := Lib.hid hfd0; have HN := Lib.hid hn
  have HB0 : Hid (∀ o o' : Obj, Below w.heap.size w ((w.alloc o).alloc o')) := Lib.hid (fun o o' => bel_two w o o')
  have HX0 : Hid (∀ o : Obj, Bx ((w.alloc o).alloc (.cells #[.int .i32 0, .int .i32 0, .int .i32 0] 95)) (w.heap.size + 1) 95 #[.int .i32 0, .int .i32 0, .int .i32 0]) := Lib.hid (fun o => by
    have := bx_new (w.alloc o) 95 #[.int .i32 0, .int .i32 0, .int .i32 0]
    rwa [World.size_alloc] at this)
  clear h hk hx hxr p2 p3 p4 p5 hem hm hbz hbe hfd hfd1 hfd0 hE hn
  go_enter Tryd.func51, Tryd.ntmps51
  go_wp2_with fail
  refine (CO.out _ (HB0.out _ _)).mono ?_
  rintro e w1 ⟨v, rfl, hg1, bb1⟩
  have bx1 := (HX0.out _).below bb1
  have bl1 := (HB0.out _ _).trans (bb1.mono (HB0.out _ _).size)
  have hs1 : w.heap.size + 2 ≤ w1.heap.size := by have := bb1.size; simpa using this
  obtain ⟨A, c, ev⟩ := hg1.slice
  rw [HN.out] at ev
  subst ev
  have HG1 := Lib.hid hg1; have BX1 := Lib.hid bx1; have BL1 := Lib.hid bl1
  clear bb1 hg1 bx1 bl1 CO HB0 HX0
  go_wp2_with fail
  refine (CB.out _ _ _ HG1.out).mono ?_
  rintro e w2 ⟨rfl, bb2⟩
  have bx2 := BX1.out.below bb2
  have bl2 := BL1.out.trans (bb2.mono BL1.out.size)
  have HG2 := Lib.hid (HG1.out.below bb2)
  have hs2 : w.heap.size + 2 ≤ w2.heap.size := by have := bb2.size; omega
  obtain ⟨k0, k1, k2⟩ := bx2.three
  have f0 := bx2.thaw 0; have f1 := bx2.thaw 1; have f2 := bx2.thaw 2
  have BX2 := Lib.hid bx2; have BL2 := Lib.hid bl2
  clear bb2 bx2 bl2 CB HG1 BX1 BL1 hs1
  cases fd
  · have e0 := HF0.out rfl
    simp only [Prod.mk.injEq] at e0
    obtain ⟨rfl, rfl, rfl⟩ := e0
    have z3 := BX2.out.set3 (.int .i32 0) (.int .i32 0) (.int .i32 0)
    have l3 := bel_set3 BL2.out (by omega) (w.heap.size + 1) (.int .i32 0) (.int .i32 0) (.int .i32 0) (by omega)
    have Z3 := Lib.hid z3; have L3 := Lib.hid l3
    clear z3 l3
    go_wp2
    obtain ⟨q0, q1, q2⟩ := Z3.out.three
    refine bodyPost_ret (v := .tuple #[.agg #[.int .i32 0, .int .i32 0, .int .i32 0], .bool false]) ?_ rfl ⟨rfl, L3.out⟩
    simp [results, Tryd.f51, go_sem, q0, q1, q2]
  · have hp := HF1.out rfl
    have hmn : m < n := by have := (List.getElem?_eq_some_iff.1 hp).1; rwa [HN.out] at this
    obtain ⟨b, o, rfl, hlt, hc⟩ := HG2.out.cells HN.out (by omega)
    have g0 := hc m _ hp 0 _ rfl
    have g1 := hc m _ hp 1 _ rfl
    have g2 := hc m _ hp 2 _ rfl
    simp only [Nat.add_zero] at g0 g1 g2
    have i1 : (m : Int) < (n : Int) := by omega
    have z3 := BX2.out.set3 (.int .i32 b1) (.int .i32 (b2 : Int)) (.int .i32 (b3 : Int))
    have l3 := bel_set3 BL2.out (by omega) (w.heap.size + 1) (.int .i32 b1) (.int .i32 (b2 : Int)) (.int .i32 (b3 : Int)) (by omega)
    have Z3 := Lib.hid z3; have L3 := Lib.hid l3
    clear z3 l3 hc hp
    go_wp2
    obtain ⟨q0, q1, q2⟩ := Z3.out.three
    refine bodyPost_ret (v := .tuple #[.agg #[.int .i32 b1, .int .i32 (b2 : Int), .int .i32 (b3 : Int)], .bool true]) ?_ rfl ⟨rfl, L3.out⟩
    simp [results, Tryd.f51, go_sem, q0, q1, q2]
/-- Why there is no such state. -/
def chkD (Q : List Rst) (a : Int) : Int := if a < 0 ∨ (Q.length : Int) ≤ a then 2 else 0
theorem check_nil (a : Int) (w : World) : Calls Tryd.prog 48 #[.pointer none, .int .i64 a] w fun e w' => e = .returned (.int .i64 1) ∧ w' = w := by
  go_enter Tryd.func48, Tryd.ntmps48
  go_wp2
  go_ret
  exact ⟨rfl, rfl⟩
set_option maxRecDepth 100000 in
theorem check_any (w : World) (d : Nat) (Q : List Rst) (L : List Wrd) (h : DgAt w d Q L) (hk : DgOk Q L) (a : Int) : Calls Tryd.prog 48 #[.pointer (some ⟨d, 0, none⟩), .int .i64 a] w fun e w' => e = .returned (.int .i64 (chkD Q a)) ∧ w' = w := by
  have c1 := states_any w d Q L h hk
  unfold chkD
  obtain ⟨n, hn⟩ : ∃ z, Q.length = z := ⟨_, rfl⟩
  rw [hn] at c1 ⊢
  have C1 := Lib.hid c1
  clear c1 h hk hn
  by_cases h1 : a < 0
  · rw [if_pos (.inl h1)]
    go_enter Tryd.func48, Tryd.ntmps48
    go_wp2
    go_ret
    exact ⟨rfl, rfl⟩
  · by_cases h2 : (n : Int) ≤ a
    · rw [if_pos (.inr h2)]
      go_enter Tryd.func48, Tryd.ntmps48
      go_wp2_with fail
      refine C1.out.mono ?_
      rintro e w1 ⟨rfl, e1⟩
      obtain rfl := e1.symm
      go_wp2
      go_ret
      exact ⟨rfl, rfl⟩
    · rw [if_neg (by omega)]
      go_enter Tryd.func48, Tryd.ntmps48
      go_wp2_with fail
      refine C1.out.mono ?_
      rintro e w1 ⟨rfl, e1⟩
      obtain rfl := e1.symm
      go_wp2
      go_ret
      exact ⟨rfl, rfl⟩
theorem staL_at {Q : List Rst} {i : Nat} {x : Rst} (hx : Q[i]? = some x) : (staL Q i).2.2 = decide ([] ∈ x) := by
  unfold staL
  rw [List.getD_eq_getElem?_getD, hx]; rfl
set_option maxRecDepth 100000 in
/-- What is asked of no state. -/
theorem ends_out (w : World) (d : Nat) (Q : List Rst) (L : List Wrd) (h : DgAt w d Q L) (hk : DgOk Q L) (a : Int) (ha : chkD Q a = 2) : Calls Tryd.prog 20 #[.pointer (some ⟨d, 0, none⟩), .int .i64 a] w fun e w' => e = .returned (.tuple #[.bool false, .int .i64 2]) ∧ w' = w := by
  have c1 := check_any w d Q L h hk a
  rw [ha] at c1
  have C1 := Lib.hid c1
  clear c1 h hk ha
  go_enter Tryd.func20, Tryd.ntmps20
  go_wp2_with fail
  refine C1.out.mono ?_
  rintro e w1 ⟨rfl, e1⟩
  obtain rfl := e1.symm
  go_wp2
  go_ret2
  exact ⟨rfl, rfl⟩
theorem run_ends (a b : Int) (c : Bool) (w : World) : (Instr.field 92 (.agg #[.int .i32 a, .int .i32 b, .bool c]) 2).run Tryd.prog w = .ok (.bool c) w := by kernel_rfl
set_option maxRecDepth 100000 in
theorem ends_in (w : World) (d : Nat) (Q : List Rst) (L : List Wrd) (h : DgAt w d Q L) (hk : DgOk Q L) (i : Nat) (x : Rst) (hx : Q[i]? = some x) : Calls Tryd.prog 20 #[.pointer (some ⟨d, 0, none⟩), .int .i64 (i : Int)] w fun e w' => e = .returned (.tuple #[.bool (decide ([] ∈ x)), .int .i64 0]) ∧ Below w.heap.size w w' := by
  have hi := (List.getElem?_eq_some_iff.1 hx).1
  have c1 := check_any w d Q L h hk (i : Int)
  have hc : chkD Q (i : Int) = 0 := by unfold chkD; rw [if_neg (by omega)]
  rw [hc] at c1
  have c2 := state_any w d Q L h i hi
  have he := staL_at hx
  obtain ⟨⟨s1, s2, s3⟩, hst⟩ : ∃ z, staL Q i = z := ⟨_, rfl⟩
  rw [hst] at c2 he
  simp only [stCell] at c2 he
  rw [← he]
  have C1 := Lib.hid c1; have C2 := Lib.hid c2
  clear c1 c2 h hk he hst hx hi hc
  go_enter Tryd.func20, Tryd.ntmps20
  go_wp2_with fail
  refine C1.out.mono ?_
  rintro e w1 ⟨rfl, e1⟩
  obtain rfl := e1.symm
  go_wp2_with fail
  refine C2.out.mono ?_
  rintro e w2 ⟨rfl, b2⟩
  have B2 := Lib.hid b2; clear b2
  have hf := run_ends (s1 : Int) (s2 : Int) s3 w2
  go_wp2
  go_ret2
  exact ⟨rfl, B2.out⟩
theorem next_nil (a : Int) (r : Int) (w : World) : Calls Tryd.prog 23 #[.pointer none, .int .i64 a, .int .i32 r] w fun e w' => e = .returned (.tuple #[.int .i64 0, .int .i64 1]) ∧ w' = w := by
  have C1 := Lib.hid (check_nil a w)
  go_enter Tryd.func23, Tryd.ntmps23
  go_wp2_with fail
  refine C1.out.mono ?_
  rintro e w1 ⟨rfl, e1⟩
  obtain rfl := e1.symm
  go_wp2
  go_ret2
  exact ⟨rfl, rfl⟩
set_option maxRecDepth 100000 in
theorem next_out (w : World) (d : Nat) (Q : List Rst) (L : List Wrd) (h : DgAt w d Q L) (hk : DgOk Q L) (a : Int) (ha : chkD Q a = 2) (r : Int) : Calls Tryd.prog 23 #[.pointer (some ⟨d, 0, none⟩), .int .i64 a, .int .i32 r] w fun e w' => e = .returned (.tuple #[.int .i64 0, .int .i64 2]) ∧ w' = w := by
  have c1 := check_any w d Q L h hk a
  rw [ha] at c1
  have C1 := Lib.hid c1
  clear c1 h hk ha
  go_enter Tryd.func23, Tryd.ntmps23
  go_wp2_with fail
  refine C1.out.mono ?_
  rintro e w1 ⟨rfl, e1⟩
  obtain rfl := e1.symm
  go_wp2
  go_ret2
  exact ⟨rfl, rfl⟩
set_option maxRecDepth 100000 in
set_option maxHeartbeats 4000000 in
theorem next_in (w : World) (d : Nat) (Q : List Rst) (L : List Wrd) (h : DgAt w d Q L) (hk : DgOk Q L) (i : Nat) (x : Rst) (hx : Q[i]? = some x) (hxr : x.Pairwise (· < ·)) (r : Int) : Calls Tryd.prog 23 #[.pointer (some ⟨d, 0, none⟩), .int .i64 (i : Int), .int .i32 r] w fun e w' => e = .returned (.tuple #[.int .i64 ((byE Q x r).2.1 : Int), .int .i64 (if r ∈ hdsR x then 0 else 10)]) ∧ Below w.heap.size w w' := by
  have hi := (List.getElem?_eq_some_iff.1 hx).1
  have c1 := check_any w d Q L h hk (i : Int)
  have hc : chkD Q (i : Int) = 0 := by unfold chkD; rw [if_neg (by omega)]
  rw [hc] at c1
  have c2 := state_any w d Q L h i hi
  have c3 := fun w' (hb : Below w.heap.size w w') => by_any w' d Q L (h.below hb) hk i x hx hxr r
  have hz : ¬ r ∈ hdsR x → (byE Q x r).2.1 = 0 := fun e => by unfold byE; rw [if_neg e]
  have hb2 : (byE Q x r).2.1 ≤ 6000000 := by
    have := hk.qm
    unfold byE
    split
    · exact Nat.le_trans List.idxOf_le_length (by omega)
    · exact Nat.zero_le _
  obtain ⟨⟨s1, s2, s3⟩, hst⟩ : ∃ z, staL Q i = z := ⟨_, rfl⟩
  obtain ⟨⟨b1, b2, b3⟩, hbe⟩ : ∃ z, byE Q x r = z := ⟨_, rfl⟩
  rw [hst] at c2 c3
  rw [hbe] at c3 hz hb2 ⊢
  simp only [stCell, edCell] at c2 c3 hz hb2 ⊢
  have wk : wrap64 (b2 : Int) = (b2 : Int) := by unfold wrap64; omega
  obtain ⟨er, her⟩ : ∃ z, (if r ∈ hdsR x then (0 : Int) else 10) = z := ⟨_, rfl⟩
  obtain ⟨fd, hfd⟩ : ∃ z, decide (r ∈ hdsR x) = z := ⟨_, rfl⟩
  rw [hfd] at c3
  rw [her]
  have HZ : Hid (fd = false → b2 = 0 ∧ er = 10) := Lib.hid (fun e => ⟨hz (of_decide_eq_false (hfd.trans e)), by rw [← her, if_neg (of_decide_eq_false (hfd.trans e))]⟩)
  have HP : Hid (fd = true → er = 0) := Lib.hid (fun e => by rw [← her, if_pos (of_decide_eq_true (hfd.trans e))])
  have C1 := Lib.hid c1; have C2 := Lib.hid c2; have C3 := Lib.hid c3
  clear c1 c2 c3 h hk hst hx hi hc hz hbe her hfd hxr
  go_enter Tryd.func23, Tryd.ntmps23
  go_wp2_with fail
  refine C1.out.mono ?_
  rintro e w1 ⟨rfl, e1⟩
  obtain rfl := e1.symm
  go_wp2_with fail
  refine C2.out.mono ?_
  rintro e w2 ⟨rfl, b2'⟩
  have c3 := C3.out w2 b2'
  have C4 := Lib.hid c3; have B2 := Lib.hid b2'; clear b2' c3 C3
  go_wp2_with fail
  refine C4.out.mono ?_
  rintro e w3 ⟨rfl, b3'⟩
  have bl3 := B2.out.trans (b3'.mono B2.out.size)
  have HB3 : Hid (∀ o, Below w.heap.size w (w3.alloc o)) := Lib.hid (fun o => bl3.alloc bl3.size _)
  clear b3' bl3 C4
  cases fd
  · obtain ⟨rfl, e2⟩ := HZ.out rfl
    go_wp2
    go_ret2
    exact ⟨by rw [e2]; rfl, HB3.out _⟩
  · have e2 := HP.out rfl
    go_wp2
    go_ret2
    exact ⟨by rw [e2]; rfl, HB3.out _⟩
end Go.Proofs.YtljaibhhkjapmaaDoor

/- A loop over an iterator that makes each element anew: its contract, and the law. -/
namespace Go.Proofs.YtljaibhhkjapmaaDoor
open Go.RowKit Go.Shelf
set_option linter.unusedVariables false

/-- All cells lie as they lay. -/
structure KeepsCells (W W' : World) : Prop where
  size : W.heap.size ≤ W'.heap.size
  same : ∀ (k : Nat) (o : Obj), W.heap[k]? = some o → o.isCells = true → W'.heap[k]? = some o
/-- The contract of such an iterator: it hands on N values, each as Pv tells; it turns nothing that was there. -/
def SeqV (n : Nat) (P : Program) (g : Nat) (lb : Array Value) (N : Nat) (Pv : Nat → Value → World → Prop) (Kp : World → World → Prop) (w : World) : Prop :=
  ∀ (l : Nat) (J : Nat → World → Prop) (W : World), Below w.heap.size w W → (∀ i W1 W2, J i W1 → W.heap.size ≤ W1.heap.size → W1.grownBy W2 none → J i W2) →
    (∀ i x W1, J i W1 → i < N → W.heap.size ≤ W1.heap.size → Pv i x W1 → YieldAt Fence.wide (n - 1) P l #[x] W1 fun e W' =>
      e = .returned (.bool true) ∧ J (i + 1) W' ∧ Kp W1 W' ∧ W1.heap.size ≤ W'.heap.size) →
    J 0 W →
    CallsIn Fence.wide n P g (#[.func (.yield l) #[] #[]] ++ lb) W fun e W' => (∃ v, e = .returned v) ∧ J N W'
def valPost (b : Nat) (Kp : World → World → Prop) (I : Nat → World → Prop) (i : Nat) (W : World) : Exit → Act → World → Prop
  | .normal, _, W' => KeepsFrom b W W' ∧ Kp W W' ∧ I i W'
  | _, _, _ => False

theorem wp_range_seqV {n : Nat} {P : Program} {g : Operand} {ps : Array Tmp} {assign body : Code} {Q : Exit → Act → World → Prop} {a : Act} {w : World}
    (h1 : 1 ≤ n) {gf : Nat} {lb : Array Value} (hg : a.eval g = .func (.func gf) #[] lb) (eg : ∀ args w, (callFunc gf args).run P w = .ok (.enter gf args) w)
    {N : Nat} {Pv : Nat → Value → World → Prop} {Kp : World → World → Prop} {w0 : World} (hseq : SeqV (n - 1) P gf lb N Pv Kp w0) (hPv : ∀ i x W W2, Pv i x W → KeepsCells W W2 → Pv i x W2)
    (hKt : ∀ {A B C : World}, Kp A B → Kp B C → Kp A C) (hKb : ∀ (W : World) (l : Nat) (o o' : Obj), w.heap.size ≤ l → W.heap[l]? = some o → o.isCells = false → o.isWalk = false → Kp W (W.putObj l o')) (hb0 : Below w0.heap.size w0 w) (hps : ps.size = 1)
    (I : Nat → World → Prop) (hI : OwnFrom w.heap.size I) (h0 : I 0 w) (a₁ : Value → Act)
    (hassign : ∀ (l : Nat) (x : Value) (W : World) (K : Act → World → Prop), K (a₁ x) W →
      assign.wpIn (Fence.wide.inRound l) (n - 1 - 1) P (Exit.then K (fun _ _ _ => False)) { tmps := (ps.zip #[x]).foldl (fun t (p, v) => t.setIfInBounds p v) a.tmps, defers := [] } W)
    (hbody : ∀ (l : Nat) (pre : Nat) (x : Value) (W : World), w.heap.size + 2 ≤ W.heap.size → I pre W → pre < N → Pv pre x W → body.wpIn (Fence.wide.inRound l) (n - 1 - 1) P (valPost w.heap.size Kp I (pre + 1) W) (a₁ x) W)
    (hdone : ∀ (D : Nat) (W : World), w.heap.size ≤ D → I N W → W.heap[D]? = some (.deferred (some [])) → Q .normal { a with defers := { target := .collected D, args := #[] } :: a.defers } W) :
    (Code.rangeFunc g ps assign body).wpIn Fence.wide n P Q a w := by
  refine wpIn_rangeFunc fun fn hfn => ?_
  obtain ⟨b, hb⟩ : ∃ b, w.heap.size = b := ⟨_, rfl⟩
  obtain ⟨rc, hrc⟩ : ∃ rc : LoopState → Loop, rc = fun st => { state := st, pending := none, fn, tmps := a.tmps, params := ps, assign, body, defers := b } := ⟨_, rfl⟩
  obtain ⟨V, hV⟩ : ∃ V, (w.alloc (.deferred (some []))).alloc (.loop (rc .ready)) = V := ⟨_, rfl⟩
  have hVs : V.heap.size = b + 2 := by rw [← hV]; simp [hb]
  have hL : V.heap[b + 1]? = some (.loop (rc .ready)) := by
    rw [← hV]; have := World.alloc_heap_new (w.alloc (.deferred (some []))) (.loop (rc .ready)); rwa [World.size_alloc, hb] at this
  have hD : V.heap[b]? = some (.deferred (some [])) := by
    rw [← hV, ← hb]; exact (Below.heap_alloc _ _ _ (by simp)).trans (World.alloc_heap_new w _)
  have hI0 : I 0 V := by rw [← hV]; exact hI.alloc _ (hI.alloc _ h0)
  have hbV : Below w0.heap.size w0 V := by
    rw [← hV]; exact hb0.trans ((((Below.refl _ w).alloc (Nat.le_refl _) _).alloc (by simp) _).mono hb0.size)
  rw [hb] at hKb hI hbody hdone
  refine ⟨b + 1, [{ target := .collected b, args := #[] }], V, { target := .fn (.func gf) lb, args := #[.func (.yield (b + 1)) #[] #[]] }, V, gf, #[.func (.yield (b + 1)) #[] #[]] ++ lb, V, ?_, ?_, ?_, ?_, fun _ => h1, ?_⟩
  · rw [← hV, hrc, ← hb]; exact run_enterLoop_outer _ _ _ _ _
  · simp only [resolve, hg]; simp [go_sem]
  · intro f' _; trivial
  · simp [invoke, go_sem, eg]
  refine (hseq (b + 1) (fun pre W => I pre W ∧ W.heap[b + 1]? = some (.loop (rc .ready)) ∧ W.heap[b]? = some (.deferred (some []))) V hbV
    (fun pre A B hJ hs hp => by
      exact ⟨hI pre A B none hJ.1 hp (fun r e => by cases e), (hp.block _ (Array.getElem?_eq_some_iff.1 hJ.2.1).1 (by simp)).trans hJ.2.1, (hp.block _ (Array.getElem?_eq_some_iff.1 hJ.2.2).1 (by simp)).trans hJ.2.2⟩) ?_ ⟨hI0, hL, hD⟩).mono ?_
  · rintro pre x W ⟨hi, hl, hk⟩ hlen hsz hpv
    rw [hVs] at hsz
    have hlt : b + 1 < W.heap.size := by omega
    have hy := run_yield (P := P) (args := #[x]) hl (by rw [hrc]; exact hps.symm)
    rw [hrc] at hy
    obtain ⟨W2, hW2⟩ : ∃ W2, W.putObj (b + 1) (.loop { rc .ready with state := .busy }) = W2 := ⟨_, rfl⟩
    have hl2 : W2.heap[b + 1]? = some (.loop { rc .ready with state := .busy }) := by rw [← hW2]; exact World.putObj_heap_same hlt
    have ho2 : ∀ k, k ≠ b + 1 → W2.heap[k]? = W.heap[k]? := fun k hne => by rw [← hW2]; exact World.putObj_heap_other hne
    have hs2 : W2.heap.size = W.heap.size := by rw [← hW2]; simp
    have hkp2 : Kp W W2 := by rw [← hW2]; exact hKb _ _ _ _ (by omega) hl rfl rfl
    have hi2 : I pre W2 := by rw [← hW2]; exact hI.putObj _ hi (by omega) hl rfl
    refine ⟨fn, _, assign, body, hy, roundIn_of_wpIn hfn (hassign _ x W _ ⟨W2, by rw [← hW2]; exact run_beginRound hl (by rw [hrc]), ?_⟩)⟩
    refine wpIn_mono (hbody _ pre x W2 (by omega) hi2 hlen (hPv _ _ _ _ hpv ⟨by omega, fun k o hk2 ho => (ho2 k (fun e => by rw [e, hl] at hk2; cases hk2; cases ho)).trans hk2⟩)) ?_
    rintro e a3 W3 hp
    cases e with
    | normal =>
      obtain ⟨hk3, hkp3, hi3⟩ := hp
      have hl3 := hk3.same _ _ (by omega) hl2 rfl
      have he := run_endRound (P := P) none hl3
      refine ⟨_, _, he, rfl, ⟨hI.putObj _ hi3 (by omega) hl3 rfl, ?_, ?_⟩, hKt (hKt hkp2 hkp3) (hKb _ _ _ _ (by omega) hl3 rfl rfl), ?_⟩
      · rw [World.putObj_heap_same (Array.getElem?_eq_some_iff.1 hl3).1, hrc]; rfl
      · exact (World.putObj_heap_other (by omega)).trans (hk3.same _ _ (Nat.le_refl _) ((ho2 b (by omega)).trans hk) rfl)
      · have := hk3.size; simp; omega
    | ret => exact hp.elim
    | exit id => exact hp.elim
    | goto t => exact hp.elim
    | panic ch => exact hp.elim
    | outgrown => exact hp.elim
  · rintro e W2 ⟨⟨v, rfl⟩, hi, hl, hk⟩
    have he := run_endLoop (P := P) hl (by rw [hrc]; simp)
    refine ⟨none, _, by rw [hrc] at he; exact he, hdone _ _ (Nat.le_refl _) (hI.putObj _ hi (by omega) hl rfl) ((World.putObj_heap_other (by omega)).trans hk)⟩
end Go.Proofs.YtljaibhhkjapmaaDoor

/- dawg.spelled: the runes of each word, handed on. -/
namespace Go.Proofs.YtljaibhhkjapmaaDoor
open Go.RowKit Go.Shelf
attribute [local go_sem] Oper.semAt_some
set_option linter.unusedSimpArgs false
set_option linter.unusedVariables false

/-- What a round keeps: all below n0, and one box. -/
def Keep1 (n0 B1 : Nat) (W W' : World) : Prop := Below n0 W W' ∧ W'.heap[B1]? = W.heap[B1]?
theorem Keep1.refl (n0 B1 : Nat) (W : World) : Keep1 n0 B1 W W := ⟨Below.refl _ _, rfl⟩
theorem Keep1.trans {n0 B1 : Nat} {A B C : World} (h : Keep1 n0 B1 A B) (k : Keep1 n0 B1 B C) : Keep1 n0 B1 A C := ⟨h.1.trans k.1, k.2.trans h.2⟩
theorem Keep1.of_below {n0 B1 : Nat} {A B : World} (h : Below A.heap.size A B) (hn : n0 ≤ A.heap.size) (h1 : B1 < A.heap.size) : Keep1 n0 B1 A B := ⟨h.mono hn, h.block B1 h1⟩
theorem keep1_b {n0 B1 : Nat} {w : World} (hn : n0 ≤ w.heap.size) (h1 : B1 < w.heap.size) (W : World) (l : Nat) (o o' : Obj) (hl : w.heap.size ≤ l) (h : W.heap[l]? = some o) (k1 : o.isCells = false) (k2 : o.isWalk = false) : Keep1 n0 B1 W (W.putObj l o') :=
  ⟨belowK_b hn W l o o' hl h k1 k2, World.putObj_heap_other (fun e => by omega)⟩
/-- What is handed on: the runes of the word at a place, in a row of its own. -/
def PvS (rn : List (List Int)) (n1 i : Nat) (x : Value) (W : World) : Prop := ∃ nv l, rn[i]? = some l ∧ n1 ≤ nv ∧ W.ownsRow nv 21 1 x l.length (l.map (Value.int .i32))
theorem PvS.keeps {rn : List (List Int)} {n1 i : Nat} {x : Value} {W W2 : World} (h : PvS rn n1 i x W) (hk : KeepsCells W W2) : PvS rn n1 i x W2 := by
  obtain ⟨nv, l, h1, h2, hl, hv⟩ := h
  refine ⟨nv, l, h1, h2, hl, ?_⟩
  rcases hv with ⟨rfl, h0⟩ | ⟨g, cap, cur, rfl, hg, hh, r1, r2, r3, r4⟩
  · exact .inl ⟨rfl, h0⟩
  · exact .inr ⟨g, cap, cur, rfl, hg, hk.same g _ hh rfl, r1, r2, r3, r4⟩
theorem spelled_any (A : Option Addr) (n c : Nat) (w : World) : Calls Tryd.prog 70 #[.slice A n c] w fun e w' => e = .returned (.func (.func 97) #[] #[.pointer (some ⟨w.heap.size, 0, none⟩)]) ∧ w' = w.alloc (.cells #[.slice A n c] 22) := by
  go_enter Tryd.func70, Tryd.ntmps70
  go_wp2
  go_ret
  exact ⟨rfl, rfl⟩

set_option maxRecDepth 100000 in
set_option maxHeartbeats 8000000 in
theorem spell_in (n : Nat) (hn : 1 ≤ n) (lp Bl n0 : Nat) (A : Option Addr) (N c : Nat) (L : List Wrd) (hN : L.length = N) (hL : N ≤ 2000000) (hv : ∀ x ∈ L, Lib.validD x.1.data.toList = true ∧ x.1.size * 4 ≤ 140737488355328) (w0 : World) (hw0 : w0.heap.size = n0) (hO : Okw w0) (hx : WRuns w0 (.slice A N c) L) (J : Nat → World → Prop)
    (W : World) (hn0 : n0 ≤ W.heap.size) (hW0 : Below n0 w0 W) (hBl : Bl < W.heap.size) (hcl : W.cell? ⟨Bl, 0, none⟩ = some (.slice A N c))
    (hJ : ∀ i W1 W2, J i W1 → W.heap.size ≤ W1.heap.size → W1.grownBy W2 none → J i W2)
    (hY : ∀ i x W1, J i W1 → i < N → W.heap.size ≤ W1.heap.size → PvS (rnW L) W.heap.size i x W1 → YieldAt Fence.wide (n - 1) Tryd.prog lp #[x] W1 fun e W' =>
      e = .returned (.bool true) ∧ J (i + 1) W' ∧ Keep1 n0 Bl W1 W' ∧ W1.heap.size ≤ W'.heap.size)
    (h0 : J 0 W) :
    CallsIn Fence.wide n Tryd.prog 97 #[.func (.yield lp) #[] #[], .pointer (some ⟨Bl, 0, none⟩)] W fun e W' => (∃ v, e = .returned v) ∧ J N W' := by
  have HN := Lib.hid hN; have HX := Lib.hid hx; have HW0 := Lib.hid hw0; have HV := Lib.hid hv; have HO := Lib.hid hO; have HY := Lib.hid hY; have HJ := Lib.hid hJ
  clear hN hx hw0 hv hO hY hJ
  refine callsIn_of_wp Tryd.func97 rfl trivial ?_ rfl
  simp only [Tryd.ntmps97, List.size_toArray, List.length_cons, List.length_nil, Nat.reduceAdd, Nat.reduceSub, Array.replicate_succ, Array.replicate_zero, List.push_toArray, List.append_toArray, List.nil_append, List.cons_append]
  gi_wp2
  gi_loopw [9] (fun s9 wr => ∃ i : Nat, s9 = .int .i64 i ∧ i ≤ N ∧ Hid (J i wr) ∧ Hid (Keep1 n0 Bl W wr) ∧ Hid (W.heap.size ≤ wr.heap.size))
    (fun s9 _ => N - (intOf s9).toNat)
  case atStart => exact ⟨0, rfl, Nat.zero_le _, Lib.hid h0, Lib.hid (Keep1.refl _ _ _), Lib.hid (Nat.le_refl _)⟩
  case round =>
    clear h0
    obtain ⟨i, rfl, hiN, HJs, HK, HSZ⟩ := hrel
    by_cases hk : i < N
    · have k1 : (i : Int) < (N : Int) := by omega
      obtain ⟨⟨p1, p2⟩, hp⟩ : ∃ p, L[i]? = some p := ⟨_, List.getElem?_eq_getElem (by rw [HN.out]; exact hk)⟩
      have BW : Below n0 w0 wr := hW0.trans HK.out.1
      obtain ⟨b, o, rfl, _, hcc⟩ := (HX.out.below (HW0.out.symm ▸ BW)).cells HN.out (by omega)
      obtain ⟨g0, g1⟩ := wrd_cells hcc hp
      simp only at g0 g1
      obtain ⟨hval, hsz⟩ := HV.out _ (List.mem_of_getElem? hp)
      simp only at hval hsz
      have hrn : (rnW L)[i]? = some (rnK p1) := by rw [rnW, List.getElem?_map, hp]; rfl
      have hal := bel_one wr (.cells #[.string p1, .int .i64 p2] 72)
      obtain ⟨i0, i1⟩ := cells2_new wr (.string p1) (.int .i64 p2) 72
      obtain ⟨wa, hwa⟩ : ∃ z, wr.alloc (.cells #[.string p1, .int .i64 p2] 72) = z := ⟨_, rfl⟩
      rw [hwa] at hal i0 i1
      have hOa : Okw wa := HO.out.below (HW0.out.symm ▸ (BW.trans (hal.mono (by have := HSZ.out; omega))))
      have cd := decode_any p1 wa hsz hOa.1 hOa.2
      unfold DecPost at cd
      rw [hval] at cd
      simp only [if_true] at cd
      change Calls _ _ _ wa (fun e w' => ∃ v, e = .returned (.tuple #[v, .int .i64 0]) ∧ w'.ownsRow wa.heap.size 21 1 v (rnK p1).length ((rnK p1).map (Value.int .i32)) ∧ Below wa.heap.size wa w') at cd
      have CD := Lib.hid cd; have HAL := Lib.hid hal; have HRN := Lib.hid hrn; have HWA := Lib.hid hwa
      have HBX := Lib.hid (show wr.heap.size < wa.heap.size by rw [← hwa]; simp)
      clear hcc hp hal hrn hwa cd hval hsz hOa BW
      gi_wp2_with (first
        | (refine ⟨trivial, ?_⟩; gi_at_call 82; rw [HWA.out]; refine (callsIn_wide.2 CD.out).mono ?_; rintro e wd ⟨v, rfl, hov, hbd⟩))
      have hgr : wr.grownBy wd none := grown_none (HAL.out.trans (hbd.mono HAL.out.size))
      have hszd : wr.heap.size ≤ wd.heap.size := hgr.size
      have hJ2 := HJ.out i wr wd HJs.out HSZ.out hgr
      have hY1 := HY.out i v wd hJ2 hk (by have := HSZ.out; omega) ⟨wa.heap.size, rnK p1, HRN.out, by have := HSZ.out; have := HAL.out.size; omega, hov⟩
      obtain ⟨fn, tmps, assign, body, hy, hR⟩ := hY1
      have HR := Lib.hid hR
      have HK2 := Lib.hid (HK.out.trans (Keep1.of_below (HAL.out.trans (hbd.mono HAL.out.size)) (by have := HSZ.out; omega) (by have := HSZ.out; omega)))
      have HS2 := Lib.hid hszd
      clear hov hbd hgr hJ2 hR hszd g0 g1 i0 i1 CD HWA HAL
      gi_wp2
      rw [hy]
      gi_wp2
      refine HR.out.mono ?_
      rintro e W3 ⟨rfl, hJ3, hk3, hs3⟩
      have HJ3 := Lib.hid hJ3; have HK3 := Lib.hid (HK2.out.trans hk3)
      have HS3 : Hid (W.heap.size ≤ W3.heap.size) := Lib.hid (by have := HSZ.out; have := HS2.out; omega)
      clear hJ3 hk3 hs3
      gi_wp2
      go_roundw
      case rel => exact ⟨i + 1, by go_num, by omega, HJ3, HK3, HS3⟩
      case measure => simp [intOf]; omega
    · obtain rfl : i = N := by omega
      have k1 : ¬ (i : Int) < (i : Int) := by omega
      gi_wp2
      go_end0
      exact ⟨⟨_, rfl⟩, HJs.out⟩
theorem spell_seq (n : Nat) (hn : 1 ≤ n) (Bl n0 : Nat) (A : Option Addr) (N c : Nat) (L : List Wrd) (hN : L.length = N) (hL : N ≤ 2000000) (hv : ∀ x ∈ L, Lib.validD x.1.data.toList = true ∧ x.1.size * 4 ≤ 140737488355328) (w0 : World) (hw0 : w0.heap.size = n0) (hO : Okw w0) (hx : WRuns w0 (.slice A N c) L)
    (w : World) (hn0 : n0 ≤ w.heap.size) (hW0 : Below n0 w0 w) (hBl : Bl < w.heap.size) (hcl : w.cell? ⟨Bl, 0, none⟩ = some (.slice A N c)) :
    SeqV n Tryd.prog 97 #[.pointer (some ⟨Bl, 0, none⟩)] N (PvS (rnW L) w.heap.size) (Keep1 n0 Bl) w :=
  fun l J W hW hJ hY h0 => spell_in n hn l Bl n0 A N c L hN hL hv w0 hw0 hO hx J W (Nat.le_trans hn0 hW.size) (hW0.trans (hW.mono hn0)) (Nat.lt_of_lt_of_le hBl hW.size) ((hW.cell (p := ⟨Bl, 0, none⟩) hBl).trans hcl) hJ
    (fun i x W1 hj hi hs hp => hY i x W1 hj hi hs (by obtain ⟨nv, l, a, b, c⟩ := hp; exact ⟨nv, l, a, Nat.le_trans hW.size b, c⟩)) h0
end Go.Proofs.YtljaibhhkjapmaaDoor

/- lexicon.from: words from a place on, handed on with their places. -/
namespace Go.Proofs.YtljaibhhkjapmaaDoor
open Go.RowKit Go.Shelf
attribute [local go_sem] Oper.semAt_some
set_option linter.unusedSimpArgs false
set_option linter.unusedVariables false

def wget (l : List Wrd) (i : Nat) : Wrd := l.getD i (⟨#[]⟩, 0)
theorem wget_at {l : List Wrd} {i : Nat} {x : Wrd} (h : l[i]? = some x) : wget l i = x := by unfold wget; rw [List.getD_eq_getElem?_getD, h]; rfl
def fromEnc (l : List Wrd) (i : Nat) : Array Value := #[.int .i64 (i : Int), .agg #[.string (wget l i).1, .int .i64 (wget l i).2]]
/-- What a round keeps: all below n₀, and two boxes. -/
def Keep2 (n₀ B1 B2 : Nat) (W W' : World) : Prop := Below n₀ W W' ∧ W'.heap[B1]? = W.heap[B1]? ∧ W'.heap[B2]? = W.heap[B2]?
theorem Keep2.refl (n₀ B1 B2 : Nat) (W : World) : Keep2 n₀ B1 B2 W W := ⟨Below.refl _ _, rfl, rfl⟩
theorem Keep2.trans {n₀ B1 B2 : Nat} {A B C : World} (h : Keep2 n₀ B1 B2 A B) (k : Keep2 n₀ B1 B2 B C) : Keep2 n₀ B1 B2 A C := ⟨h.1.trans k.1, k.2.1.trans h.2.1, k.2.2.trans h.2.2⟩
theorem Keep2.of_below {n₀ B1 B2 : Nat} {A B : World} (h : Below A.heap.size A B) (hn : n₀ ≤ A.heap.size) (h1 : B1 < A.heap.size) (h2 : B2 < A.heap.size) : Keep2 n₀ B1 B2 A B := ⟨h.mono hn, h.block B1 h1, h.block B2 h2⟩
theorem keep2_b {n₀ B1 B2 : Nat} {w : World} (hn : n₀ ≤ w.heap.size) (h1 : B1 < w.heap.size) (h2 : B2 < w.heap.size) (W : World) (l : Nat) (o o' : Obj) (hl : w.heap.size ≤ l) (h : W.heap[l]? = some o) (k1 : o.isCells = false) (k2 : o.isWalk = false) : Keep2 n₀ B1 B2 W (W.putObj l o') :=
  ⟨belowK_b hn W l o o' hl h k1 k2, World.putObj_heap_other (fun e => by omega), World.putObj_heap_other (fun e => by omega)⟩

set_option maxRecDepth 100000 in
set_option maxHeartbeats 8000000 in
theorem from_in (n : Nat) (hn : 1 ≤ n) (lp Bl Ba n₀ : Nat) (A : Option Addr) (N c a0 : Nat) (L : List Wrd) (hN : L.length = N) (hL : N ≤ 2000000) (ha : a0 ≤ N) (w0 : World) (hw0 : w0.heap.size = n₀) (hx : WRuns w0 (.slice A N c) L) (J Jx : List Nat → World → Prop)
    (W : World)
    (hY : ∀ pre x W1, J pre W1 → pre.length < N → YieldAt Fence.wide (n - 1) Tryd.prog lp (fromEnc L x) W1 fun e W' =>
      (e = .returned (.bool true) ∧ J (pre ++ [x]) W' ∧ Keep2 n₀ Bl Ba W1 W') ∨ (e = .returned (.bool false) ∧ Jx (pre ++ [x]) W'))
    (hn0 : n₀ ≤ W.heap.size) (hW0 : Below n₀ w0 W) (hBl : Bl < W.heap.size) (hBa : Ba < W.heap.size)
    (hcl : W.cell? ⟨Bl, 0, none⟩ = some (.slice A N c)) (hca : W.cell? ⟨Ba, 0, none⟩ = some (.int .i64 (a0 : Nat))) (h0 : J [] W) :
    CallsIn Fence.wide n Tryd.prog 93 #[.func (.yield lp) #[] #[], .pointer (some ⟨Ba, 0, none⟩), .pointer (some ⟨Bl, 0, none⟩)] W fun e W' => (∃ v, e = .returned v) ∧
      ((∃ ys, ys = List.range' a0 (N - a0) ∧ J ys W') ∨ (∃ pre, pre <+: List.range' a0 (N - a0) ∧ Jx pre W')) := by
  have HN := Lib.hid hN; have HX := Lib.hid hx; have HW0 := Lib.hid hw0
  clear hN hx hw0
  refine callsIn_of_wp Tryd.func93 rfl trivial ?_ rfl
  simp only [Tryd.ntmps93, List.size_toArray, List.length_cons, List.length_nil, Nat.reduceAdd, Nat.reduceSub, Array.replicate_succ, Array.replicate_zero, List.push_toArray, List.append_toArray, List.nil_append, List.cons_append]
  gi_wp2
  gi_loopw [4] (fun s4 wr => ∃ (i : Nat) (pre : List Nat), s4 = .int .i64 i ∧ a0 ≤ i ∧ i ≤ N ∧ pre.length = i - a0 ∧ Hid (pre = List.range' a0 (i - a0)) ∧ J pre wr ∧ Keep2 n₀ Bl Ba W wr)
    (fun s4 _ => N - (intOf s4).toNat)
  case atStart => exact ⟨a0, [], rfl, Nat.le_refl _, ha, by simp, Lib.hid (by simp), h0, Keep2.refl _ _ _ _⟩
  case round =>
    clear h0
    obtain ⟨i, pre, rfl, hai, hiN, hpk, HP, hJs, hKB⟩ := hrel
    have cl := (World.cell?_of_block hKB.2.1).trans hcl
    by_cases hk : i < N
    · have k1 : (i : Int) < (N : Int) := by omega
      obtain ⟨⟨p1, p2⟩, hp⟩ : ∃ p, L[i]? = some p := ⟨_, List.getElem?_eq_getElem (by rw [HN.out]; exact hk)⟩
      have BW : Below n₀ w0 wr := hW0.trans hKB.1
      obtain ⟨b, o, rfl, _, hcc⟩ := (HX.out.below (HW0.out.symm ▸ BW)).cells HN.out (by omega)
      obtain ⟨g0, g1⟩ := wrd_cells hcc hp
      simp only at g0 g1
      have hwg := wget_at hp
      have hst : Hid (pre ++ [i] = List.range' a0 (i + 1 - a0)) := Lib.hid (by
        rw [HP.out, show i + 1 - a0 = (i - a0) + 1 by omega, List.range'_concat, show a0 + 1 * (i - a0) = i by omega])
      have hY1 := hY pre i wr hJs (by omega)
      unfold fromEnc at hY1
      rw [hwg] at hY1
      simp only at hY1
      obtain ⟨fn, tmps, assign, body, hy, hR⟩ := hY1
      have HR := Lib.hid hR
      have HK := Lib.hid hKB
      have HPX := Lib.hid (show List.range' a0 (i + 1 - a0) <+: List.range' a0 (N - a0) from by
        rw [show N - a0 = (i + 1 - a0) + (N - i - 1) by omega, ← List.range'_append_1]
        exact List.prefix_append _ _)
      clear hcc hp hwg hY hR hKB
      gi_wp2
      refine HR.out.mono ?_
      rintro e W3 (⟨rfl, hJ3, hk3⟩ | ⟨rfl, hJx3⟩)
      · gi_wp2
        go_roundw
        case rel => exact ⟨i + 1, pre ++ [i], by go_num, by omega, by omega, by simp; omega, hst, hJ3, HK.out.trans hk3⟩
        case measure => simp [intOf]; omega
      · gi_wp2
        refine bodyPost_ret (results_none rfl _ _ _) rfl ?_
        exact ⟨⟨_, rfl⟩, .inr ⟨pre ++ [i], by rw [hst.out]; exact HPX.out, hJx3⟩⟩
    · obtain rfl : i = N := by omega
      have k1 : ¬ (i : Int) < (i : Int) := by omega
      gi_wp2
      go_end0
      have hJs' : J (List.range' a0 (i - a0)) wr := by rw [← HP.out]; exact hJs
      exact ⟨⟨_, rfl⟩, .inl hJs'⟩

theorem from_any (A : Option Addr) (n c : Nat) (a0 : Int) (w : World) :
    Calls Tryd.prog 64 #[.slice A n c, .int .i64 a0] w fun e w' => e = .returned (.func (.func 93) #[] #[.pointer (some ⟨w.heap.size + 1, 0, none⟩), .pointer (some ⟨w.heap.size, 0, none⟩)]) ∧ w' = (w.alloc (.cells #[.slice A n c] 22)).alloc (.cells #[.int .i64 a0] 3) := by
  go_enter Tryd.func64, Tryd.ntmps64
  go_wp2
  go_ret
  exact ⟨rfl, rfl⟩
theorem from_stops (n : Nat) (hn : 1 ≤ n) (Bl Ba n₀ : Nat) (A : Option Addr) (N c a0 : Nat) (L : List Wrd) (hN : L.length = N) (hL : N ≤ 2000000) (ha : a0 ≤ N) (w0 : World) (hw0 : w0.heap.size = n₀) (hx : WRuns w0 (.slice A N c) L)
    (w : World) (hn0 : n₀ ≤ w.heap.size) (hW0 : Below n₀ w0 w) (hBl : Bl < w.heap.size) (hBa : Ba < w.heap.size) (hcl : w.cell? ⟨Bl, 0, none⟩ = some (.slice A N c)) (hca : w.cell? ⟨Ba, 0, none⟩ = some (.int .i64 (a0 : Nat))) :
    SeqStopsK Fence.wide n Tryd.prog 93 #[.pointer (some ⟨Ba, 0, none⟩), .pointer (some ⟨Bl, 0, none⟩)] (fromEnc L) (Keep2 n₀ Bl Ba) (fun ys => ys = List.range' a0 (N - a0)) (fun pre => pre <+: List.range' a0 (N - a0)) N w :=
  fun l J Jx W hW hJ _ hY h0 => from_in n hn l Bl Ba n₀ A N c a0 L hN hL ha w0 hw0 hx J Jx W hY (Nat.le_trans hn0 hW.size) (hW0.trans (hW.mono hn0)) (Nat.lt_of_lt_of_le hBl hW.size) (Nat.lt_of_lt_of_le hBa hW.size) ((hW.cell (p := ⟨Bl, 0, none⟩) hBl).trans hcl) ((hW.cell (p := ⟨Ba, 0, none⟩) hBa).trans hca) h0
end Go.Proofs.YtljaibhhkjapmaaDoor

/- Layer 11, plain: how far a way goes, which beginnings are words, of how few words a text is made. -/
namespace Go.Proofs.YtljaibhhkjapmaaDoor
set_option linter.unusedVariables false
set_option linter.unusedSimpArgs false

/-- How many runes are gone by. -/
def wayG : List (List Int) → List Int → Nat
  | _, [] => 0
  | W, r :: l => if behR W r = [] then 0 else wayG (behR W r) l + 1
theorem wayG_le : ∀ (l : List Int) (W : List (List Int)), wayG W l ≤ l.length := by
  intro l
  induction l with
  | nil => intro W; exact Nat.le_refl _
  | cons r l ih =>
    intro W
    rw [wayG]
    split
    · exact Nat.zero_le _
    · have := ih (behR W r); simp only [List.length_cons]; omega
theorem behP_cons (W : List (List Int)) (r : Int) (l : List Int) : behP W (r :: l) = behP (behR W r) l := rfl
theorem wayG_in : ∀ (l : List Int) (W : List (List Int)) (n : Nat), n ≤ wayG W l → n = 0 ∨ behP W (l.take n) ≠ [] := by
  intro l
  induction l with
  | nil => intro W n h; rw [wayG] at h; exact .inl (by omega)
  | cons r l ih =>
    intro W n h
    rw [wayG] at h
    split at h
    · exact .inl (by omega)
    · rename_i hr
      cases n with
      | zero => exact .inl rfl
      | succ n =>
        right
        rw [List.take_succ_cons, behP_cons]
        rcases ih (behR W r) n (by omega) with rfl | h2
        · rw [List.take_zero]; exact hr
        · exact h2
theorem wayG_ge : ∀ (l : List Int) (W : List (List Int)) (n : Nat), n ≤ l.length → behP W (l.take n) ≠ [] → n ≤ wayG W l := by
  intro l
  induction l with
  | nil => intro W n h _; simp at h; omega
  | cons r l ih =>
    intro W n h h2
    cases n with
    | zero => exact Nat.zero_le _
    | succ n =>
      rw [List.take_succ_cons, behP_cons] at h2
      rw [wayG, if_neg (by
        intro e
        rw [e] at h2
        exact h2 (behP_nil_mono (w := ([] : List (List Int))) [] (l.take n) rfl))]
      have := ih (behR W r) n (by simp only [List.length_cons] at h; omega) h2
      omega
theorem wayG_is {l : List Int} {W : List (List Int)} {n : Nat} (h : n ≤ l.length) (h1 : n = 0 ∨ behP W (l.take n) ≠ []) (h2 : n = l.length ∨ behP W (l.take (n + 1)) = []) : wayG W l = n := by
  have a : n ≤ wayG W l := by
    rcases h1 with rfl | h1
    · exact Nat.zero_le _
    · exact wayG_ge l W n h h1
  have b := wayG_le l W
  rcases h2 with rfl | h2
  · omega
  · rcases Nat.lt_or_ge n (wayG W l) with h3 | h3
    · rcases wayG_in l W (n + 1) h3 with h4 | h4
      · omega
      · exact absurd h2 h4
    · omega
theorem wayG_all {l : List Int} {W : List (List Int)} : wayG W l = l.length ↔ (l = [] ∨ behP W l ≠ []) := by
  constructor
  · intro h
    have := wayG_in l W l.length (by omega)
    rw [List.take_length] at this
    exact this.imp_left List.eq_nil_of_length_eq_zero
  · rintro (rfl | h)
    · rfl
    · have := wayG_ge l W l.length (Nat.le_refl _) (by rw [List.take_length]; exact h)
      have := wayG_le l W
      omega

/-- How long the words are that runes begin with. -/
def wrdN (W : List (List Int)) (l : List Int) : List Nat := (List.range (l.length + 1)).filter (fun n => decide (l.take n ∈ W))
theorem mem_wrdN {W : List (List Int)} {l : List Int} {n : Nat} : n ∈ wrdN W l ↔ n ≤ l.length ∧ l.take n ∈ W := by
  unfold wrdN
  rw [List.mem_filter, List.mem_range, decide_eq_true_eq]
  exact ⟨fun h => ⟨by omega, h.2⟩, fun h => ⟨by omega, h.2⟩⟩
theorem wrdN_rising (W : List (List Int)) (l : List Int) : (wrdN W l).Pairwise (· < ·) := List.Pairwise.filter _ List.pairwise_lt_range
theorem wrdN_pos {W : List (List Int)} (h0 : [] ∉ W) {l : List Int} {n : Nat} (h : n ∈ wrdN W l) : 0 < n := by
  obtain ⟨_, h1⟩ := mem_wrdN.1 h
  rcases Nat.eq_zero_or_pos n with rfl | h2
  · rw [List.take_zero] at h1; exact absurd h1 h0
  · exact h2
theorem take_beh {W : List (List Int)} {p : List Int} : [] ∈ behP W p ↔ p ∈ W := by rw [mem_behP, List.append_nil]
/-- A way meets all words that runes begin with. -/
theorem wrdN_way (W : List (List Int)) (l : List Int) : (List.range (wayG W l + 1)).filter (fun n => decide (l.take n ∈ W)) = wrdN W l := by
  have h1 := wayG_le l W
  unfold wrdN
  have e : List.range (l.length + 1) = List.range (wayG W l + 1) ++ List.range' (wayG W l + 1) (l.length - wayG W l) := by
    rw [List.range_eq_range', List.range_eq_range']
    have := List.range'_append_1 (s := 0) (m := wayG W l + 1) (n := l.length - wayG W l)
    rw [Nat.zero_add] at this
    rw [this]
    congr 1
    omega
  rw [e, List.filter_append]
  have e2 : (List.range' (wayG W l + 1) (l.length - wayG W l)).filter (fun n => decide (l.take n ∈ W)) = [] := by
    rw [List.filter_eq_nil_iff]
    intro n hn h2
    rw [List.mem_range'_1] at hn
    have h3 : l.take n ∈ W := of_decide_eq_true h2
    have := wayG_ge l W n (by omega) (List.ne_nil_of_mem (take_beh.2 h3))
    omega
  rw [e2, List.append_nil]
theorem wrdN_snoc (W : List (List Int)) (l : List Int) (k : Nat) : (List.range (k + 1)).filter (fun n => decide (l.take n ∈ W)) = (List.range k).filter (fun n => decide (l.take n ∈ W)) ++ (if l.take k ∈ W then [k] else []) := by
  rw [List.range_succ, List.filter_append]
  by_cases h : l.take k ∈ W <;> simp [h]
/-- The longest one, or none. -/
def lngN (W : List (List Int)) (l : List Int) : Nat := (wrdN W l).getLast?.getD 0
theorem lngN_spec {W : List (List Int)} (h0 : [] ∉ W) (l : List Int) : (lngN W l = 0 ∧ ∀ n, n ≤ l.length → l.take n ∉ W) ∨ (0 < lngN W l ∧ lngN W l ≤ l.length ∧ l.take (lngN W l) ∈ W ∧ ∀ n, n ≤ l.length → l.take n ∈ W → n ≤ lngN W l) := by
  unfold lngN
  cases h : (wrdN W l).getLast? with
  | none =>
    left
    rw [List.getLast?_eq_none_iff] at h
    refine ⟨rfl, fun n hn h1 => ?_⟩
    have := mem_wrdN.2 ⟨hn, h1⟩
    rw [h] at this
    cases this
  | some k =>
    right
    have hm : k ∈ wrdN W l := List.mem_of_getLast? h
    obtain ⟨h1, h2⟩ := mem_wrdN.1 hm
    refine ⟨wrdN_pos h0 hm, h1, h2, fun n hn h3 => ?_⟩
    have h4 := mem_wrdN.2 ⟨hn, h3⟩
    have hr := wrdN_rising W l
    obtain ⟨t, ht⟩ := List.getLast?_eq_some_iff.1 h
    rw [ht] at hr h4
    rw [List.pairwise_append] at hr
    rcases List.mem_append.1 h4 with h5 | h5
    · have := hr.2.2 n h5 k (by simp)
      show n ≤ k
      omega
    · have e : n = k := by simpa using h5
      rw [e]; exact Nat.le_refl _

/-! Of how few words runes are made. -/
/-- One word more that is looked at. -/
def cutU (c : Nat → Nat) (acc : Nat × Nat) (n : Nat) : Nat × Nat := if 1 + c n ≤ acc.1 then (1 + c n, n) else acc
def prt (W : List (List Int)) : List Int → List (Nat × Nat)
  | [] => [(0, 0)]
  | r :: l => (wrdN W (r :: l)).foldl (cutU (fun n => ((prt W l).getD (n - 1) (65, 0)).1)) (65, 0) :: prt W l
def cut (W : List (List Int)) (l : List Int) : Nat × Nat := (prt W l).getD 0 (65, 0)
theorem prt_len (W : List (List Int)) (l : List Int) : (prt W l).length = l.length + 1 := by
  induction l with
  | nil => rfl
  | cons r l ih => rw [prt, List.length_cons, ih, List.length_cons]
theorem prt_drop (W : List (List Int)) : ∀ (l : List Int) (i : Nat), i ≤ l.length → prt W (l.drop i) = (prt W l).drop i := by
  intro l
  induction l with
  | nil => intro i h; simp at h; subst h; rfl
  | cons r l ih =>
    intro i h
    cases i with
    | zero => rfl
    | succ i => rw [List.drop_succ_cons, prt, List.drop_succ_cons]; exact ih i (by simp at h; omega)
theorem prt_at (W : List (List Int)) (l : List Int) (i : Nat) (h : i ≤ l.length) : (prt W l)[i]? = some (cut W (l.drop i)) := by
  have h1 : i < (prt W l).length := by rw [prt_len]; omega
  rw [List.getElem?_eq_getElem h1, cut, prt_drop W l i h]
  congr 1
  rw [List.getD_eq_getElem?_getD, List.getElem?_drop, Nat.add_zero, List.getElem?_eq_getElem h1]
  rfl
theorem cut_nil (W : List (List Int)) : cut W [] = (0, 0) := rfl
theorem cut_of {W : List (List Int)} (h0 : [] ∉ W) {l : List Int} (h : l ≠ []) : cut W l = (wrdN W l).foldl (cutU (fun n => (cut W (l.drop n)).1)) (65, 0) := by
  cases l with
  | nil => exact absurd rfl h
  | cons r l =>
    show (wrdN W (r :: l)).foldl (cutU (fun n => ((prt W l).getD (n - 1) (65, 0)).1)) (65, 0) = _
    have key : ∀ (ns : List Nat) (acc : Nat × Nat), (∀ n ∈ ns, n ∈ wrdN W (r :: l)) → ns.foldl (cutU (fun n => ((prt W l).getD (n - 1) (65, 0)).1)) acc = ns.foldl (cutU (fun n => (cut W ((r :: l).drop n)).1)) acc := by
      intro ns
      induction ns with
      | nil => intro acc _; rfl
      | cons n ns ih =>
        intro acc hn
        have hm := hn n (by simp)
        have hp := wrdN_pos h0 hm
        obtain ⟨hl, _⟩ := mem_wrdN.1 hm
        have e : ((prt W l).getD (n - 1) (65, 0)).1 = (cut W ((r :: l).drop n)).1 := by
          obtain ⟨k, rfl⟩ : ∃ k, n = k + 1 := ⟨n - 1, by omega⟩
          rw [List.drop_succ_cons, Nat.add_sub_cancel, List.getD_eq_getElem?_getD, prt_at W l k (by simp at hl; omega)]
          rfl
        simp only [List.foldl_cons]
        have e2 : cutU (fun n => ((prt W l).getD (n - 1) (65, 0)).1) acc n = cutU (fun n => (cut W ((r :: l).drop n)).1) acc n := by
          unfold cutU; simp only [e]
        rw [e2]
        exact ih _ (fun m hm => hn m (by simp [hm]))
    exact key _ _ (fun n hn => hn)
/-- What looking at lengths one by one, the shorter first, finds. -/
theorem cutU_spec (c : Nat → Nat) (hc : ∀ n, c n ≤ 65) : ∀ (ns : List Nat), ns.Pairwise (· < ·) →
    (ns.foldl (cutU c) (65, 0) = (65, 0) ∧ ∀ n ∈ ns, c n = 65) ∨
    (∃ n ∈ ns, ns.foldl (cutU c) (65, 0) = (1 + c n, n) ∧ c n ≤ 64 ∧ ∀ m ∈ ns, c n ≤ c m ∧ (c m = c n → m ≤ n)) := by
  have key : ∀ (k : Nat) (ns : List Nat), ns.length = k → ns.Pairwise (· < ·) →
    (ns.foldl (cutU c) (65, 0) = (65, 0) ∧ ∀ n ∈ ns, c n = 65) ∨
    (∃ n ∈ ns, ns.foldl (cutU c) (65, 0) = (1 + c n, n) ∧ c n ≤ 64 ∧ ∀ m ∈ ns, c n ≤ c m ∧ (c m = c n → m ≤ n)) := by
    intro k
    induction k with
    | zero =>
      intro ns h _
      obtain rfl := List.eq_nil_of_length_eq_zero h
      exact .inl ⟨rfl, fun n hn => by cases hn⟩
    | succ k ih =>
      intro ns h hs
      have hne : ns ≠ [] := by rintro rfl; simp at h
      obtain ⟨t, y, rfl⟩ : ∃ t y, ns = t ++ [y] := ⟨ns.dropLast, ns.getLast hne, (List.dropLast_concat_getLast hne).symm⟩
      rw [List.pairwise_append] at hs
      rw [List.foldl_append]
      simp only [List.foldl_cons, List.foldl_nil]
      have hy := hc y
      rcases ih t (by simp at h; omega) hs.1 with ⟨h1, h2⟩ | ⟨n, hn, h1, h2, h3⟩
      · rw [h1]
        unfold cutU
        by_cases hq : 1 + c y ≤ 65
        · rw [if_pos hq]
          refine .inr ⟨y, by simp, rfl, by omega, fun m hm => ?_⟩
          rcases List.mem_append.1 hm with h4 | h4
          · have := h2 m h4
            exact ⟨by omega, fun e => by omega⟩
          · have e : m = y := by simpa using h4
            rw [e]; exact ⟨Nat.le_refl _, fun _ => Nat.le_refl _⟩
        · rw [if_neg hq]
          refine .inl ⟨rfl, fun m hm => ?_⟩
          rcases List.mem_append.1 hm with h4 | h4
          · exact h2 m h4
          · have e : m = y := by simpa using h4
            rw [e]; omega
      · rw [h1]
        unfold cutU
        have hny := hs.2.2 n hn y (by simp)
        by_cases hq : 1 + c y ≤ 1 + c n
        · rw [if_pos hq]
          refine .inr ⟨y, by simp, rfl, by omega, fun m hm => ?_⟩
          rcases List.mem_append.1 hm with h4 | h4
          · have := h3 m h4
            have := hs.2.2 m h4 y (by simp)
            exact ⟨by omega, fun e => by omega⟩
          · have e : m = y := by simpa using h4
            rw [e]; exact ⟨Nat.le_refl _, fun _ => Nat.le_refl _⟩
        · rw [if_neg hq]
          refine .inr ⟨n, by simp [hn], rfl, h2, fun m hm => ?_⟩
          rcases List.mem_append.1 hm with h4 | h4
          · exact h3 m h4
          · have e : m = y := by simpa using h4
            rw [e]; exact ⟨by omega, fun e => by omega⟩
  exact fun ns h => key _ ns rfl h
theorem cut_most {W : List (List Int)} (h0 : [] ∉ W) : ∀ (k : Nat) (l : List Int), l.length = k → (cut W l).1 ≤ 65 := by
  intro k
  induction k using Nat.strongRecOn with
  | _ k ih =>
    intro l hl
    by_cases h : l = []
    · subst h; rw [cut_nil]; exact Nat.zero_le _
    · rw [cut_of h0 h]
      have hin : ∀ (ns : List Nat) (acc : Nat × Nat), acc.1 ≤ 65 → (ns.foldl (cutU (fun n => (cut W (l.drop n)).1)) acc).1 ≤ 65 := by
        intro ns
        induction ns with
        | nil => exact fun acc h => h
        | cons n ns ih2 =>
          intro acc ha
          refine ih2 _ ?_
          unfold cutU
          split
          · rename_i h2; exact Nat.le_trans h2 ha
          · exact ha
      exact hin _ _ (Nat.le_refl _)
theorem cut_le {W : List (List Int)} (h0 : [] ∉ W) (l : List Int) : (cut W l).1 ≤ 65 := cut_most h0 _ l rfl
/-- How runes are parted: not at all, or the fewest words, and the longer first. -/
theorem cut_spec {W : List (List Int)} (h0 : [] ∉ W) {l : List Int} (h : l ≠ []) :
    (cut W l = (65, 0) ∧ ∀ n ∈ wrdN W l, (cut W (l.drop n)).1 = 65) ∨
    (∃ n ∈ wrdN W l, cut W l = (1 + (cut W (l.drop n)).1, n) ∧ (cut W (l.drop n)).1 ≤ 64 ∧ ∀ m ∈ wrdN W l, (cut W (l.drop n)).1 ≤ (cut W (l.drop m)).1 ∧ ((cut W (l.drop m)).1 = (cut W (l.drop n)).1 → m ≤ n)) := by
  rw [cut_of h0 h]
  exact cutU_spec _ (fun n => cut_le h0 _) _ (wrdN_rising W l)
/-- There are no more words than runes. -/
theorem cut_len {W : List (List Int)} (h0 : [] ∉ W) : ∀ (k : Nat) (l : List Int), l.length = k → (cut W l).1 = 65 ∨ (cut W l).1 ≤ l.length := by
  intro k
  induction k using Nat.strongRecOn with
  | _ k ih =>
    intro l hl
    by_cases h : l = []
    · subst h; exact .inr (Nat.le_refl _)
    · rcases cut_spec h0 h with ⟨e, _⟩ | ⟨n, hn, e, h1, _⟩
      · rw [e]; exact .inl rfl
      · obtain ⟨hnl, _⟩ := mem_wrdN.1 hn
        have hp := wrdN_pos h0 hn
        rw [e]
        right
        rcases ih (l.drop n).length (by rw [List.length_drop]; omega) (l.drop n) rfl with h2 | h2
        · omega
        · rw [List.length_drop] at h2
          show 1 + (cut W (l.drop n)).1 ≤ l.length
          omega
theorem cut_zero {W : List (List Int)} (h0 : [] ∉ W) {l : List Int} : (cut W l).1 = 0 ↔ l = [] := by
  constructor
  · intro h
    refine Classical.byContradiction fun hne => ?_
    rcases cut_spec h0 hne with ⟨e, _⟩ | ⟨n, hn, e, h1, _⟩
    · rw [e] at h; cases h
    · rw [e] at h
      have h' : 1 + (cut W (l.drop n)).1 = 0 := h
      omega
  · rintro rfl; rfl
/-- The words of which runes are made. -/
def chn (W : List (List Int)) : Nat → List Int → List (List Int)
  | 0, _ => []
  | k + 1, l => l.take (cut W l).2 :: chn W k (l.drop (cut W l).2)
def spl (W : List (List Int)) (l : List Int) : List (List Int) := if (cut W l).1 = 65 then [] else chn W (cut W l).1 l
theorem chn_len (W : List (List Int)) : ∀ (k : Nat) (l : List Int), (chn W k l).length = k := by
  intro k
  induction k with
  | zero => intro l; rfl
  | succ k ih => intro l; rw [chn, List.length_cons, ih]
/-- A step on: the first word, and what is behind it. -/
theorem cut_step {W : List (List Int)} (h0 : [] ∉ W) {l : List Int} (h : l ≠ []) (h1 : (cut W l).1 ≠ 65) (hl : l.length ≤ 64) :
    0 < (cut W l).2 ∧ (cut W l).2 ≤ l.length ∧ l.take (cut W l).2 ∈ W ∧ (cut W l).1 = 1 + (cut W (l.drop (cut W l).2)).1 ∧ (cut W (l.drop (cut W l).2)).1 ≠ 65 := by
  rcases cut_spec h0 h with ⟨e, _⟩ | ⟨n, hn, e, h2, _⟩
  · rw [e] at h1; exact absurd rfl h1
  · obtain ⟨h3, h4⟩ := mem_wrdN.1 hn
    rw [e]
    exact ⟨wrdN_pos h0 hn, h3, h4, rfl, by show (cut W (l.drop n)).1 ≠ 65; omega⟩
theorem spl_cons {W : List (List Int)} (h0 : [] ∉ W) {l : List Int} (h : l ≠ []) (h1 : (cut W l).1 ≠ 65) (hl : l.length ≤ 64) : spl W l = l.take (cut W l).2 :: spl W (l.drop (cut W l).2) := by
  obtain ⟨_, _, _, e, h2⟩ := cut_step h0 h h1 hl
  unfold spl
  rw [if_neg h1, if_neg h2, e, Nat.add_comm, chn]
theorem spl_nil (W : List (List Int)) : spl W [] = [] := rfl
theorem spl_len {W : List (List Int)} {l : List Int} (h1 : (cut W l).1 ≠ 65) : (spl W l).length = (cut W l).1 := by unfold spl; rw [if_neg h1, chn_len]
/-- Parts are words, one behind the other the runes. -/
theorem spl_facts {W : List (List Int)} (h0 : [] ∉ W) : ∀ (k : Nat) (l : List Int), l.length = k → l.length ≤ 64 → (cut W l).1 ≠ 65 → (spl W l).flatten = l ∧ ∀ x ∈ spl W l, x ∈ W := by
  intro k
  induction k using Nat.strongRecOn with
  | _ k ih =>
    intro l hk hl h1
    by_cases h : l = []
    · subst h; exact ⟨rfl, fun x hx => by cases hx⟩
    · obtain ⟨a, b, c, d, e⟩ := cut_step h0 h h1 hl
      rw [spl_cons h0 h h1 hl]
      obtain ⟨i1, i2⟩ := ih (l.drop (cut W l).2).length (by rw [List.length_drop]; omega) _ rfl (by rw [List.length_drop]; omega) e
      refine ⟨by rw [List.flatten_cons, i1, List.take_append_drop], fun x hx => ?_⟩
      rcases List.mem_cons.1 hx with rfl | hx
      · exact c
      · exact i2 x hx
/-- Runes that are made of words, one behind the other, are made of no more. -/
theorem cut_few {W : List (List Int)} (h0 : [] ∉ W) : ∀ (ws : List (List Int)), (∀ x ∈ ws, x ∈ W) → ws.flatten.length ≤ 64 → (cut W ws.flatten).1 ≤ ws.length ∧ (cut W ws.flatten).1 ≠ 65 := by
  intro ws
  induction ws with
  | nil => intro _ _; exact ⟨Nat.le_refl _, fun h => absurd (show (0 : Nat) = 65 from h) (by decide)⟩
  | cons x ws ih =>
    intro hw hl
    have hx := hw x (by simp)
    have hxn : x ≠ [] := fun e => h0 (e ▸ hx)
    have hxl := List.length_pos_iff.2 hxn
    rw [List.flatten_cons] at hl ⊢
    have hl2 : x.length + ws.flatten.length ≤ 64 := by rw [List.length_append] at hl; exact hl
    obtain ⟨i1, i2⟩ := ih (fun y hy => hw y (by simp [hy])) (by omega)
    have hm : x.length ∈ wrdN W (x ++ ws.flatten) := mem_wrdN.2 ⟨by rw [List.length_append]; omega, by rw [List.take_left]; exact hx⟩
    have hne : x ++ ws.flatten ≠ [] := by simp [hxn]
    have hd : (x ++ ws.flatten).drop x.length = ws.flatten := List.drop_left
    rcases cut_spec h0 hne with ⟨e, h2⟩ | ⟨n, hn, e, h2, h3⟩
    · have := h2 _ hm
      rw [hd] at this
      exact absurd this i2
    · have h4 := (h3 _ hm).1
      rw [hd] at h4
      have h5 := cut_len h0 _ (x ++ ws.flatten) rfl
      rw [List.length_append] at h5
      rw [e] at h5 ⊢
      simp only at h5 ⊢
      refine ⟨by simp only [List.length_cons]; omega, ?_⟩
      have := cut_len h0 _ ws.flatten rfl
      omega
/-- A word is parted into itself. -/
theorem cut_word {W : List (List Int)} (h0 : [] ∉ W) {x : List Int} (hx : x ∈ W) (hl : x.length ≤ 64) : cut W x = (1, x.length) := by
  have hxn : x ≠ [] := fun e => h0 (e ▸ hx)
  have hm : x.length ∈ wrdN W x := mem_wrdN.2 ⟨Nat.le_refl _, by rw [List.take_length]; exact hx⟩
  have hd : (cut W (x.drop x.length)).1 = 0 := by rw [List.drop_length]; rfl
  rcases cut_spec h0 hxn with ⟨e, h2⟩ | ⟨n, hn, e, h2, h3⟩
  · have := h2 _ hm
    omega
  · obtain ⟨a, b⟩ := h3 _ hm
    have e0 : (cut W (x.drop n)).1 = 0 := by omega
    have := (cut_zero h0).1 e0
    rw [List.drop_eq_nil_iff] at this
    obtain ⟨c, _⟩ := mem_wrdN.1 hn
    rw [e, e0]
    congr 1
    omega
end Go.Proofs.YtljaibhhkjapmaaDoor

