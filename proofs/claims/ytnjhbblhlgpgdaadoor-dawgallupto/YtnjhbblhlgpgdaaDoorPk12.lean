/- Texts that several proofs of this seat share, one behind the other: ZOut XFrom ZTails ZRep ZVal ZSpell. -/
import Derived.Test.YtnjhbblhlgpgdaaDoorPk11
import Derived.Test.YtnjhbblhlgpgdaaDoorPk4
import Derived.Test.YtnjhbblhlgpgdaaDoorPk1
import Derived.RangeFuncNested
import Derived.RangeFuncLeaves
import Derived.WalkMore
import Derived.Test.YtnjhbblhlgpgdaaDoorPk9
import Derived.Test.YtnjhbblhlgpgdaaDoorPk10
import Derived.Deep.RegionHeld3
import Derived.Test.YtnjhbblhlgpgdaaDoorPk8
import Derived.Test.YtnjhbblhlgpgdaaDoorShelf
import Derived.Laws.CopyOwn
import Derived.Test.YtnjhbblhlgpgdaaDoorPk2
/- Dawg.Out, last: what they answer. -/
namespace Go.Proofs.YtnjhbblhlgpgdaaDoor
open Go.RowKit Go.Shelf Go.Lib
attribute [local go_sem] Oper.semAt_some
set_option linter.unusedSimpArgs false
set_option linter.unusedVariables false

/-- An edge as it is handed out. -/
abbrev OEd := Int × Nat
def oeCell (e : OEd) : List Value := [.int .i32 e.1, .int .i64 (e.2 : Int)]
theorem oe_ln (x : OEd) : (oeCell x).length = 2 := rfl
theorem oe_one (x : OEd) : ∀ u ∈ oeCell x, u.oneCell' = true := by
  intro u hu
  simp only [oeCell, List.mem_cons, List.mem_nil_iff, or_false] at hu
  rcases hu with rfl | rfl <;> rfl
theorem info_oe : (Tryd.prog.info? 73).map (fun i => (i.zero, i.size, i.bytes)) = some (some (.agg #[.int .i32 0, .int .i64 0]), 2, 16) := by kernel_rfl
def oeOf (e : Edg) : OEd := (e.1, e.2.1)
/-- The edges of a state, as they are handed out. -/
def outE (Q : List Rst) (x : Rst) : List OEd := (edE Q x).map oeOf
theorem make_oes (w : World) (c : Nat) (hc : c ≤ 6000000) : ∃ w', (Instr.makeSlice 38 (.int .i64 0) (.int .i64 (c : Int))).run Tryd.prog w = .ok (.slice (some ⟨w.heap.size, 0, none⟩) 0 c) w' ∧
    w'.ownsRow w.heap.size 73 2 (.slice (some ⟨w.heap.size, 0, none⟩) 0 c) 0 [] ∧ w.grownBy w' none := by
  obtain ⟨i0, hi, hz0, hz1, hz2⟩ := info_parts info_oe
  exact run_make_own w w.heap.size 38 73 i0 _ 2 Tryd.underlying38 hi hz0 hz1 .i64 .i64 c (by rw [hz2]; omega) (by unfold maxLen; omega) (Nat.le_refl _)
theorem edE_bound {Q : List Rst} {L : List Wrd} (hk : DgOk Q L) {i : Nat} {x : Rst} (hx : Q[i]? = some x) : (edE Q x).length ≤ 6000000 ∧ ∀ e ∈ edE Q x, e.2.1 ≤ 6000000 := by
  refine ⟨?_, fun e he => ?_⟩
  · have h1 := edK_succ hx
    have h2 := (edK_le (Q := Q) (List.getElem?_eq_some_iff.1 hx).1).2
    rw [h1, List.length_append] at h2
    have := hk.em
    omega
  · unfold edE at he
    obtain ⟨r, _, rfl⟩ := List.mem_map.1 he
    have := hk.qm
    exact Nat.le_trans List.idxOf_le_length (by omega)
set_option maxRecDepth 100000 in
theorem outs_out (w : World) (d : Nat) (Q : List Rst) (L : List Wrd) (h : DgAt w d Q L) (hk : DgOk Q L) (a : Int) (ha : chkD Q a = 2) : Calls Tryd.prog 19 #[.pointer (some ⟨d, 0, none⟩), .int .i64 a] w fun e w' => e = .returned (.tuple #[.slice none 0 0, .int .i64 2]) ∧ w' = w := by
  have c1 := check_any w d Q L h hk a
  rw [ha] at c1
  have C1 := Lib.hid c1
  clear c1 h hk ha
  go_enter Tryd.func19, Tryd.ntmps19
  go_wp2_with fail
  refine C1.out.mono ?_
  rintro e w1 ⟨rfl, e1⟩
  obtain rfl := e1.symm
  go_wp2
  go_ret2
  exact ⟨rfl, rfl⟩
set_option maxRecDepth 100000 in
set_option maxHeartbeats 8000000 in
theorem outs_in (w : World) (d : Nat) (Q : List Rst) (L : List Wrd) (h : DgAt w d Q L) (hk : DgOk Q L) (i : Nat) (x : Rst) (hx : Q[i]? = some x) : Calls Tryd.prog 19 #[.pointer (some ⟨d, 0, none⟩), .int .i64 (i : Int)] w fun e w' => ∃ v, e = .returned (.tuple #[v, .int .i64 0]) ∧ GRuns oeCell 2 w' v (outE Q x) ∧ Below w.heap.size w w' := by
  have hi := (List.getElem?_eq_some_iff.1 hx).1
  have c1 := check_any w d Q L h hk (i : Int)
  have hc : chkD Q (i : Int) = 0 := by unfold chkD; rw [if_neg (by omega)]
  rw [hc] at c1
  have c2 := state_any w d Q L h i hi
  have c3 := fun w' (hb : Below w.heap.size w w') => out_any w' d Q L (h.below hb) hk i x hx
  obtain ⟨hem, hev⟩ := edE_bound hk hx
  obtain ⟨⟨s1, s2, s3⟩, hst⟩ : ∃ z, staL Q i = z := ⟨_, rfl⟩
  rw [hst] at c2 c3
  simp only [stCell] at c2 c3
  unfold outE
  obtain ⟨E, hE⟩ : ∃ z, edE Q x = z := ⟨_, rfl⟩
  rw [hE] at c3 hem hev ⊢
  obtain ⟨n, hn⟩ : ∃ z, E.length = z := ⟨_, rfl⟩
  rw [hn] at hem
  have C1 := Lib.hid c1; have C2 := Lib.hid c2; have C3 := Lib.hid c3; have HN := Lib.hid hn; have HEV := Lib.hid hev
  clear c1 c2 c3 h hk hst hx hi hc hE hn hev
  go_enter Tryd.func19, Tryd.ntmps19
  go_wp2_with fail
  refine C1.out.mono ?_
  rintro e w1 ⟨rfl, e1⟩
  obtain rfl := e1.symm
  go_wp2_with fail
  refine C2.out.mono ?_
  rintro e w2 ⟨rfl, b2⟩
  have c3 := C3.out w2 b2
  have C4 := Lib.hid c3; have B2 := Lib.hid b2
  clear b2 c3 C3
  go_wp2_with fail
  refine C4.out.mono ?_
  rintro e w3 ⟨v, rfl, hg3, b3⟩
  have hb3 := B2.out.trans (b3.mono B2.out.size)
  obtain ⟨A, c, ev⟩ := hg3.slice
  rw [HN.out] at ev
  subst ev
  obtain ⟨w4, hmk, hown, hg4⟩ := make_oes w3 n hem
  have hb4 : Below w3.heap.size w3 w4 := (Below.refl _ _).grown hg4 (Nat.le_refl _) (fun k e => by cases e)
  obtain ⟨n1, hn1⟩ : ∃ z, w3.heap.size = z := ⟨_, rfl⟩
  rw [hn1] at hown hb4
  have hR0 : Hid (w4.ownsRow n1 73 2 (.slice (some ⟨n1, 0, none⟩) 0 n) 0 (gCells oeCell ((E.take 0).map oeOf))) := Lib.hid hown
  have hB0 : Hid (Below n1 w3 w4) := Lib.hid hb4
  have HB3 := Lib.hid hb3; have HG3 := Lib.hid hg3; have HN1 := Lib.hid hn1
  clear b3 hb3 hg3 hown hg4 hb4 C4
  go_wp2
  try rw [HN1.out]
  clear hmk
  go_loopw [8, 27] (fun s8 s27 wr => ∃ (j : Nat) (vo : Value), s8 = vo ∧ s27 = .int .i64 j ∧ j ≤ n ∧ Hid (wr.ownsRow n1 73 2 vo j (gCells oeCell ((E.take j).map oeOf))) ∧ Hid (Below n1 w3 wr)) (fun _ s27 _ => n - (RowKit.intOf s27).toNat)
  case atStart => exact ⟨0, _, rfl, rfl, Nat.zero_le _, hR0, hB0⟩
  case round =>
    obtain ⟨j, vo, rfl, rfl, hjn, HR, HB⟩ := hrel
    by_cases hj : j < n
    · obtain ⟨⟨y1, y2, y3⟩, hy⟩ : ∃ y, E[j]? = some y := ⟨_, List.getElem?_eq_getElem (by rw [HN.out]; exact hj)⟩
      have hbr : Below w3.heap.size w3 wr := by rw [HN1.out]; exact HB.out
      obtain ⟨b, o, rfl, hlt, hc⟩ := (HG3.out.below hbr).cells HN.out (by omega)
      have g0 := hc j _ hy 0 _ rfl
      have g1 := hc j _ hy 1 _ rfl
      have g2 := hc j _ hy 2 _ rfl
      simp only [Nat.add_zero] at g0 g1 g2
      have i1 : (j : Int) < (n : Int) := by omega
      have hy2 : y2 ≤ 6000000 := HEV.out _ (List.mem_of_getElem? hy)
      have wk : wrap64 (y2 : Int) = (y2 : Int) := by unfold wrap64; omega
      have hal := bel_one wr (.cells #[.int .i32 y1, .int .i32 (y2 : Int), .int .i32 (y3 : Int)] 91)
      obtain ⟨W1, hW1⟩ : ∃ z, wr.alloc (.cells #[.int .i32 y1, .int .i32 (y2 : Int), .int .i32 (y3 : Int)] 91) = z := ⟨_, rfl⟩
      have hbx := bx_new wr 91 #[.int .i32 y1, .int .i32 (y2 : Int), .int .i32 (y3 : Int)]
      obtain ⟨B, hB⟩ : ∃ z, wr.heap.size = z := ⟨_, rfl⟩
      rw [hW1] at hal hbx
      rw [hB] at hbx
      have hr1 := z_own_below HR.out hal
      have hn1W : n1 ≤ wr.heap.size := by rw [← HN1.out]; exact hbr.size
      obtain ⟨v9, w9, hrun, hown9, hgr9, hblk9⟩ := append_one (P := Tryd.prog) oe_ln oe_one info_oe rfl (by decide) (by decide) Tryd.underlying38 W1 n1 _ j _ hr1 (y1, y2) (Nat.le_trans hn1W hal.size) (by omega)
      have htk : (E.take (j + 1)).map oeOf = (E.take j).map oeOf ++ [(y1, y2)] := by rw [List.take_add_one, hy]; simp [oeOf]
      have hown : Hid (w9.ownsRow n1 73 2 v9 (j + 1) (gCells oeCell ((E.take (j + 1)).map oeOf))) := Lib.hid (by rw [htk, gCells_snoc]; exact hown9)
      have hb9 : Hid (Below n1 w3 w9) := Lib.hid ((HB.out.trans ((hal.trans ((bel_one W1 (.cells (oeCell (y1, y2)).toArray 73)).mono hal.size)).mono hn1W)).grown hgr9 (by simp; have := hal.size; omega) (fun r e => by
        rcases hr1.2 with ⟨e2, _⟩ | ⟨g, cap, cur, e2, hb, _⟩
        · rw [e2] at e; cases e
        · rw [e2] at e
          have : g = r := by simpa [Value.ownBlock] using e
          omega))
      obtain ⟨c0, c1, c2⟩ := hbx.three
      have HRUN := Lib.hid hrun; have HW1 := Lib.hid hW1; have HBB := Lib.hid hB
      clear hc hy hbr hlt hal hbx hr1 hn1W hrun hown9 hgr9 hblk9 htk hW1 hB HR HB hy2
      go_wp2_with (first
        | (rw [HW1.out, HBB.out])
        | (at_builtin; refine wpList_append_run (.tmp 31) (.tmp 38) 38 _ _ _ _ HRUN.out rfl rfl rfl rfl ?_))
      exact ⟨⟨j + 1, _, rfl, by go_num, by omega, hown, hb9⟩, by simp [RowKit.intOf]; omega⟩
    · obtain rfl : j = n := by omega
      have i1 : ¬ (j : Int) < (j : Int) := by omega
      have hEt : E.take j = E := List.take_of_length_le (by rw [HN.out]; exact Nat.le_refl _)
      rw [hEt] at HR
      have hfin := GRuns.of_own oe_ln (by rw [List.length_map, HN.out]) HR.out
      have hbf := HB3.out.trans (Below.mono HB.out (by rw [← HN1.out]; exact HB3.out.size))
      have HF := Lib.hid hfin; have HBF := Lib.hid hbf
      clear hfin hbf hEt
      go_wp2
      go_ret2
      exact ⟨_, rfl, HF.out, HBF.out⟩
/-- The last edge that has not more ahead. -/
theorem last_any (A : Option Addr) (n c : Nat) (l : List Edg) (w : World) (hn : l.length = n) (hu : GRuns edCell 3 w (.slice A n c) l) (hl : n ≤ 6000000) (a : Nat) (ha : a ≤ 2000000000) (k : Nat) (y : Edg) (hk : l[k]? = some y)
    (h1 : ∀ j z, j ≤ k → l[j]? = some z → z.2.2 ≤ a) (h2 : ∀ j z, k < j → l[j]? = some z → a < z.2.2) :
    Calls Tryd.prog 76 #[.slice A n c, .int .i32 (a : Int)] w fun e w' => e = .returned (.agg (edCell y).toArray) ∧ Below w.heap.size w w' := by
  have hkn : k < n := by rw [← hn]; exact (List.getElem?_eq_some_iff.1 hk).1
  have cb := fun w' (hu' : GRuns edCell 3 w' (.slice A n c) l) => ebsA_any A n c l ((a : Int) + 1) w' hn hu' hl (k + 1) hkn (fun j z hj hz => by have := h1 j z (by omega) hz; unfold keyA; omega) (fun j z hj hz => by have := h2 j z (by omega) hz; unfold keyA; omega)
  obtain ⟨fd, hfd⟩ : ∃ z, eAt keyA l (k + 1) ((a : Int) + 1) = z := ⟨_, rfl⟩
  rw [hfd] at cb
  obtain ⟨K, hK⟩ : ∃ z, k + 1 = z := ⟨_, rfl⟩
  rw [hK] at cb
  have hwr : IntKind.i32.wrap ((a : Int) + 1) = (a : Int) + 1 := by rw [IntKind.wrap_i32]; omega
  have hw2 : IntKind.i64.wrap ((K : Int) - 1) = (k : Int) := by rw [IntKind.wrap_i64]; omega
  obtain ⟨y1, y2, y3⟩ := y
  show Calls Tryd.prog _ _ w fun e w' => e = .returned (.agg #[.int .i32 y1, .int .i32 (y2 : Int), .int .i32 (y3 : Int)]) ∧ _
  have i1 : (k : Int) < (n : Int) := by omega
  have HB0 : Hid (∀ o : Obj, Below w.heap.size w (w.alloc o)) := Lib.hid (fun o => bel_one w o)
  have HX0 : Hid (Bx (w.alloc (.cells #[.int .i32 0, .int .i32 0, .int .i32 0] 91)) w.heap.size 91 #[.int .i32 0, .int .i32 0, .int .i32 0]) := Lib.hid (bx_new _ _ _)
  have CB := Lib.hid cb; have HN := Lib.hid hn; have HK := Lib.hid hk; have HU := Lib.hid hu
  clear cb hfd hK h1 h2 hu hn hk ha hl
  go_enter Tryd.func76, Tryd.ntmps76
  go_wp2_with fail
  refine (CB.out _ (HU.out.below (HB0.out _))).mono ?_
  rintro e w2 ⟨rfl, bb2⟩
  have bx2 := HX0.out.below bb2
  have bl2 := (HB0.out _).trans (bb2.mono (HB0.out _).size)
  have hs2 : w.heap.size + 1 ≤ w2.heap.size := by have := bb2.size; simpa using this
  obtain ⟨b, o, rfl, hlt, hc⟩ := (HU.out.below bl2).cells HN.out (by omega)
  have g0 := hc k _ HK.out 0 _ rfl
  have g1 := hc k _ HK.out 1 _ rfl
  have g2 := hc k _ HK.out 2 _ rfl
  simp only [Nat.add_zero] at g0 g1 g2
  obtain ⟨k0, k1, k2⟩ := bx2.three
  have f0 := bx2.thaw 0; have f1 := bx2.thaw 1; have f2 := bx2.thaw 2
  have z3 := bx2.set3 (.int .i32 y1) (.int .i32 (y2 : Int)) (.int .i32 (y3 : Int))
  have l3 := bel_set3 bl2 (by omega) w.heap.size (.int .i32 y1) (.int .i32 (y2 : Int)) (.int .i32 (y3 : Int)) (Nat.le_refl _)
  have Z3 := Lib.hid z3; have L3 := Lib.hid l3
  clear z3 l3 hc bb2 bx2 bl2 CB HX0 HB0 HU HK hlt
  go_wp2
  obtain ⟨q0, q1, q2⟩ := Z3.out.three
  refine bodyPost_ret (v := .agg #[.int .i32 y1, .int .i32 (y2 : Int), .int .i32 (y3 : Int)]) ?_ rfl ⟨rfl, L3.out⟩
  simp [results, Tryd.f76, go_sem, q0, q1, q2]
end Go.Proofs.YtnjhbblhlgpgdaaDoor

/- lexicon.from: words from a place on, handed on with their places. -/
namespace Go.Proofs.YtnjhbblhlgpgdaaDoor
open Go.RowKit Go.Shelf
attribute [local go_sem] Oper.semAt_some
set_option linter.unusedSimpArgs false
set_option linter.unusedVariables false

def wget (l : List Wrd) (i : Nat) : Wrd := l.getD i (⟨#[]⟩, 0)
theorem wget_at {l : List Wrd} {i : Nat} {x : Wrd} (h : l[i]? = some x) : wget l i = x := by unfold wget; rw [List.getD_eq_getElem?_getD, h]; rfl
def fromEnc (l : List Wrd) (i : Nat) : Array Value := #[.int .i64 (i : Int), .agg #[.string (wget l i).1, .int .i64 (wget l i).2]]
/-- What a round keeps: all below n₀, and two boxes. -/
def Keep2 (n₀ B1 B2 : Nat) (W W' : World) : Prop := Below n₀ W W' ∧ W'.heap[B1]? = W.heap[B1]? ∧ W'.heap[B2]? = W.heap[B2]?
theorem Keep2.refl (n₀ B1 B2 : Nat) (W : World) : Keep2 n₀ B1 B2 W W := ⟨Below.refl _ _, rfl, rfl⟩
theorem Keep2.trans {n₀ B1 B2 : Nat} {A B C : World} (h : Keep2 n₀ B1 B2 A B) (k : Keep2 n₀ B1 B2 B C) : Keep2 n₀ B1 B2 A C := ⟨h.1.trans k.1, k.2.1.trans h.2.1, k.2.2.trans h.2.2⟩
theorem Keep2.of_below {n₀ B1 B2 : Nat} {A B : World} (h : Below A.heap.size A B) (hn : n₀ ≤ A.heap.size) (h1 : B1 < A.heap.size) (h2 : B2 < A.heap.size) : Keep2 n₀ B1 B2 A B := ⟨h.mono hn, h.block B1 h1, h.block B2 h2⟩
theorem keep2_b {n₀ B1 B2 : Nat} {w : World} (hn : n₀ ≤ w.heap.size) (h1 : B1 < w.heap.size) (h2 : B2 < w.heap.size) (W : World) (l : Nat) (o o' : Obj) (hl : w.heap.size ≤ l) (h : W.heap[l]? = some o) (k1 : o.isCells = false) (k2 : o.isWalk = false) : Keep2 n₀ B1 B2 W (W.putObj l o') :=
  ⟨belowK_b hn W l o o' hl h k1 k2, World.putObj_heap_other (fun e => by omega), World.putObj_heap_other (fun e => by omega)⟩

set_option maxRecDepth 100000 in
set_option maxHeartbeats 8000000 in
theorem from_in (n : Nat) (hn : 1 ≤ n) (lp Bl Ba n₀ : Nat) (A : Option Addr) (N c a0 : Nat) (L : List Wrd) (hN : L.length = N) (hL : N ≤ 2000000) (ha : a0 ≤ N) (w0 : World) (hw0 : w0.heap.size = n₀) (hx : WRuns w0 (.slice A N c) L) (J Jx : List Nat → World → Prop)
    (W : World)
    (hY : ∀ pre x W1, J pre W1 → pre.length < N → YieldAt Fence.wide (n - 1) Tryd.prog lp (fromEnc L x) W1 fun e W' =>
      (e = .returned (.bool true) ∧ J (pre ++ [x]) W' ∧ Keep2 n₀ Bl Ba W1 W') ∨ (e = .returned (.bool false) ∧ Jx (pre ++ [x]) W'))
    (hn0 : n₀ ≤ W.heap.size) (hW0 : Below n₀ w0 W) (hBl : Bl < W.heap.size) (hBa : Ba < W.heap.size)
    (hcl : W.cell? ⟨Bl, 0, none⟩ = some (.slice A N c)) (hca : W.cell? ⟨Ba, 0, none⟩ = some (.int .i64 (a0 : Nat))) (h0 : J [] W) :
    CallsIn Fence.wide n Tryd.prog 82 #[.func (.yield lp) #[] #[], .pointer (some ⟨Ba, 0, none⟩), .pointer (some ⟨Bl, 0, none⟩)] W fun e W' => (∃ v, e = .returned v) ∧
      ((∃ ys, ys = List.range' a0 (N - a0) ∧ J ys W') ∨ (∃ pre, pre <+: List.range' a0 (N - a0) ∧ Jx pre W')) := by
  have HN := Lib.hid hN; have HX := Lib.hid hx; have HW0 := Lib.hid hw0
  clear hN hx hw0
  refine callsIn_of_wp Tryd.func82 rfl trivial ?_ rfl
  simp only [Tryd.ntmps82, List.size_toArray, List.length_cons, List.length_nil, Nat.reduceAdd, Nat.reduceSub, Array.replicate_succ, Array.replicate_zero, List.push_toArray, List.append_toArray, List.nil_append, List.cons_append]
  gi_wp2
  gi_loopw [4] (fun s4 wr => ∃ (i : Nat) (pre : List Nat), s4 = .int .i64 i ∧ a0 ≤ i ∧ i ≤ N ∧ pre.length = i - a0 ∧ Hid (pre = List.range' a0 (i - a0)) ∧ J pre wr ∧ Keep2 n₀ Bl Ba W wr)
    (fun s4 _ => N - (intOf s4).toNat)
  case atStart => exact ⟨a0, [], rfl, Nat.le_refl _, ha, by simp, Lib.hid (by simp), h0, Keep2.refl _ _ _ _⟩
  case round =>
    clear h0
    obtain ⟨i, pre, rfl, hai, hiN, hpk, HP, hJs, hKB⟩ := hrel
    have cl := (World.cell?_of_block hKB.2.1).trans hcl
    by_cases hk : i < N
    · have k1 : (i : Int) < (N : Int) := by omega
      obtain ⟨⟨p1, p2⟩, hp⟩ : ∃ p, L[i]? = some p := ⟨_, List.getElem?_eq_getElem (by rw [HN.out]; exact hk)⟩
      have BW : Below n₀ w0 wr := hW0.trans hKB.1
      obtain ⟨b, o, rfl, _, hcc⟩ := (HX.out.below (HW0.out.symm ▸ BW)).cells HN.out (by omega)
      obtain ⟨g0, g1⟩ := wrd_cells hcc hp
      simp only at g0 g1
      have hwg := wget_at hp
      have hst : Hid (pre ++ [i] = List.range' a0 (i + 1 - a0)) := Lib.hid (by
        rw [HP.out, show i + 1 - a0 = (i - a0) + 1 by omega, List.range'_concat, show a0 + 1 * (i - a0) = i by omega])
      have hY1 := hY pre i wr hJs (by omega)
      unfold fromEnc at hY1
      rw [hwg] at hY1
      simp only at hY1
      obtain ⟨fn, tmps, assign, body, hy, hR⟩ := hY1
      have HR := Lib.hid hR
      have HK := Lib.hid hKB
      have HPX := Lib.hid (show List.range' a0 (i + 1 - a0) <+: List.range' a0 (N - a0) from by
        rw [show N - a0 = (i + 1 - a0) + (N - i - 1) by omega, ← List.range'_append_1]
        exact List.prefix_append _ _)
      clear hcc hp hwg hY hR hKB
      gi_wp2
      refine HR.out.mono ?_
      rintro e W3 (⟨rfl, hJ3, hk3⟩ | ⟨rfl, hJx3⟩)
      · gi_wp2
        go_roundw
        case rel => exact ⟨i + 1, pre ++ [i], by go_num, by omega, by omega, by simp; omega, hst, hJ3, HK.out.trans hk3⟩
        case measure => simp [intOf]; omega
      · gi_wp2
        refine bodyPost_ret (results_none rfl _ _ _) rfl ?_
        exact ⟨⟨_, rfl⟩, .inr ⟨pre ++ [i], by rw [hst.out]; exact HPX.out, hJx3⟩⟩
    · obtain rfl : i = N := by omega
      have k1 : ¬ (i : Int) < (i : Int) := by omega
      gi_wp2
      go_end0
      have hJs' : J (List.range' a0 (i - a0)) wr := by rw [← HP.out]; exact hJs
      exact ⟨⟨_, rfl⟩, .inl hJs'⟩

theorem from_any (A : Option Addr) (n c : Nat) (a0 : Int) (w : World) :
    Calls Tryd.prog 54 #[.slice A n c, .int .i64 a0] w fun e w' => e = .returned (.func (.func 82) #[] #[.pointer (some ⟨w.heap.size + 1, 0, none⟩), .pointer (some ⟨w.heap.size, 0, none⟩)]) ∧ w' = (w.alloc (.cells #[.slice A n c] 22)).alloc (.cells #[.int .i64 a0] 3) := by
  go_enter Tryd.func54, Tryd.ntmps54
  go_wp2
  go_ret
  exact ⟨rfl, rfl⟩
theorem from_stops (n : Nat) (hn : 1 ≤ n) (Bl Ba n₀ : Nat) (A : Option Addr) (N c a0 : Nat) (L : List Wrd) (hN : L.length = N) (hL : N ≤ 2000000) (ha : a0 ≤ N) (w0 : World) (hw0 : w0.heap.size = n₀) (hx : WRuns w0 (.slice A N c) L)
    (w : World) (hn0 : n₀ ≤ w.heap.size) (hW0 : Below n₀ w0 w) (hBl : Bl < w.heap.size) (hBa : Ba < w.heap.size) (hcl : w.cell? ⟨Bl, 0, none⟩ = some (.slice A N c)) (hca : w.cell? ⟨Ba, 0, none⟩ = some (.int .i64 (a0 : Nat))) :
    SeqStopsK Fence.wide n Tryd.prog 82 #[.pointer (some ⟨Ba, 0, none⟩), .pointer (some ⟨Bl, 0, none⟩)] (fromEnc L) (Keep2 n₀ Bl Ba) (fun ys => ys = List.range' a0 (N - a0)) (fun pre => pre <+: List.range' a0 (N - a0)) N w :=
  fun l J Jx W hW hJ _ hY h0 => from_in n hn l Bl Ba n₀ A N c a0 L hN hL ha w0 hw0 hx J Jx W hY (Nat.le_trans hn0 hW.size) (hW0.trans (hW.mono hn0)) (Nat.lt_of_lt_of_le hBl hW.size) (Nat.lt_of_lt_of_le hBa hW.size) ((hW.cell (p := ⟨Bl, 0, none⟩) hBl).trans hcl) ((hW.cell (p := ⟨Ba, 0, none⟩) hBa).trans hca) h0
end Go.Proofs.YtnjhbblhlgpgdaaDoor

/- builder.tails: the tails of a frozen state, handed on. -/
namespace Go.Proofs.YtnjhbblhlgpgdaaDoor
open Go.RowKit Go.Shelf
attribute [local go_sem] Oper.semAt_some
set_option linter.unusedSimpArgs false
set_option linter.unusedVariables false

def tlEnc (t : Tl) : Array Value := #[.agg #[.int .i32 (t.1 : Int), .int .i32 t.2.1, .int .i32 (t.2.2 : Int)]]
/-- The frozen states as they lie, below n1. -/
structure FrzAt (w : World) (q N : Nat) (F : List Fz) : Prop where
  lt : q < w.heap.size
  len : F.length = N
  at_ : ∃ g cap, w.cell? ⟨q, 1, none⟩ = some (.slice (some ⟨g, 0, none⟩) N cap) ∧ g < w.heap.size ∧ N ≤ cap ∧ cap ≤ maxLen ∧ ∀ j f, F[j]? = some f → w.cell? ⟨g, j * 5, none⟩ = some (.int .i32 (f.1.1 : Int)) ∧ w.cell? ⟨g, j * 5 + 1, none⟩ = some (.int .i32 f.1.2.1) ∧ w.cell? ⟨g, j * 5 + 2, none⟩ = some (.int .i32 (f.1.2.2 : Int)) ∧ w.cell? ⟨g, j * 5 + 3, none⟩ = some (.int .i32 (f.2.1 : Int)) ∧ w.cell? ⟨g, j * 5 + 4, none⟩ = some (.bool f.2.2)
theorem FrzAt.of_bld {w : World} {q m n0 k : Nat} {D : DataW Unit} {W : List (Nat × Int)} {F : List Fz} {vw vf : Value} (h : Bld w q m n0 k D W F vw vf) (hF : 0 < F.length) : FrzAt w q F.length F := by
  have hfr := h.frz
  unfold FzOwn at hfr
  obtain ⟨g, cap, e, h1, h2, h3, h4, _⟩ := z_own_form hfr hF
  subst e
  exact ⟨h.lt.1, rfl, g, cap, h.cells.2.1, h2, h3, h4, fun j f hj => fz_cells hfr hj⟩
theorem FrzAt.below {w w' : World} {q N : Nat} {F : List Fz} (h : FrzAt w q N F) (hb : Below w.heap.size w w') : FrzAt w' q N F := by
  obtain ⟨h1, h2, g, cap, h3, h4, h5, h6, h7⟩ := h
  refine ⟨Nat.lt_of_lt_of_le h1 hb.size, h2, g, cap, cell_keep hb h3, Nat.lt_of_lt_of_le h4 hb.size, h5, h6, fun j f hj => ?_⟩
  obtain ⟨a, b, c, d, e⟩ := h7 j f hj
  exact ⟨cell_keep hb a, cell_keep hb b, cell_keep hb c, cell_keep hb d, cell_keep hb e⟩
/-- What a round keeps: all below n1, two boxes, and each tail that lies. -/
structure KeepT (n1 B1 B2 : Nat) (W W' : World) : Prop where
  bel : Below n1 W W'
  b1 : W'.heap[B1]? = W.heap[B1]?
  b2 : W'.heap[B2]? = W.heap[B2]?
  tail : ∀ (k : Nat) (cs : Array Value) (fz : Nat × Nat), n1 ≤ k → W.heap[k]? = some (.cells cs 112 fz) → W'.heap[k]? = some (.cells cs 112 fz)
theorem KeepT.refl (n1 B1 B2 : Nat) (W : World) : KeepT n1 B1 B2 W W := ⟨Below.refl _ _, rfl, rfl, fun _ _ _ _ h => h⟩
theorem KeepT.trans {n1 B1 B2 : Nat} {A B C : World} (h : KeepT n1 B1 B2 A B) (k : KeepT n1 B1 B2 B C) : KeepT n1 B1 B2 A C := ⟨h.bel.trans k.bel, k.b1.trans h.b1, k.b2.trans h.b2, fun i cs fz hi hh => k.tail i cs fz hi (h.tail i cs fz hi hh)⟩
theorem KeepT.of_below {n1 B1 B2 : Nat} {A B : World} (h : Below A.heap.size A B) (hn : n1 ≤ A.heap.size) (h1 : B1 < A.heap.size) (h2 : B2 < A.heap.size) : KeepT n1 B1 B2 A B := ⟨h.mono hn, h.block B1 h1, h.block B2 h2, fun k cs fz _ hh => (h.block k (Array.getElem?_eq_some_iff.1 hh).1).trans hh⟩
theorem keepT_b {n1 B1 B2 : Nat} {w : World} (hn : n1 ≤ w.heap.size) (h1 : B1 < w.heap.size) (h2 : B2 < w.heap.size) (W : World) (l : Nat) (o o' : Obj) (hl : w.heap.size ≤ l) (h : W.heap[l]? = some o) (k1 : o.isCells = false) (k2 : o.isWalk = false) : KeepT n1 B1 B2 W (W.putObj l o') :=
  ⟨belowK_b hn W l o o' hl h k1 k2, World.putObj_heap_other (fun e => by omega), World.putObj_heap_other (fun e => by omega), fun k cs fz _ hh => (World.putObj_heap_other (fun e => by subst e; rw [h] at hh; cases hh; cases k1)).trans hh⟩
theorem tails_any (q n : Nat) (w : World) : Calls Tryd.prog 88 #[.pointer (some ⟨q, 0, none⟩), .int .i32 (n : Int)] w fun e w' => e = .returned (.func (.func 104) #[] #[.pointer (some ⟨w.heap.size + 1, 0, none⟩), .pointer (some ⟨w.heap.size, 0, none⟩)]) ∧
    w' = (w.alloc (.cells #[.pointer (some ⟨q, 0, none⟩)] 107)).alloc (.cells #[.int .i32 (n : Int)] 21) := by
  go_enter Tryd.func88, Tryd.ntmps88
  go_wp2
  go_ret
  exact ⟨rfl, rfl⟩

set_option maxRecDepth 100000 in
set_option maxHeartbeats 8000000 in
theorem tails_in (n : Nat) (hn : 1 ≤ n) (lp Bn Bb n1 q N M : Nat) (F : List Fz) (R : List Rst) (hz : FzOk M F R) (hN5 : N ≤ 5000000) (w0 : World) (hw0 : w0.heap.size = n1) (hF : FrzAt w0 q N F) (x : Nat) (hx : x < N) (J : List Tl → World → Prop)
    (W : World) (hn1 : n1 ≤ W.heap.size) (hW0 : Below n1 w0 W) (h1n : n1 ≤ Bn) (h1b : n1 ≤ Bb) (hnb : Bn ≠ Bb) (hBn : Boxed W Bn 21 (.int .i32 (x : Int))) (hBb : Boxed W Bb 107 (.pointer (some ⟨q, 0, none⟩)))
    (hJ : ∀ pre W1 W2, J pre W1 → W.heap.size ≤ W1.heap.size → W1.grownBy W2 (some Bn) → J pre W2)
    (hY : ∀ pre t W1, J pre W1 → pre ++ [t] <+: tls F x → W.heap.size ≤ W1.heap.size → YieldAt Fence.wide (n - 1) Tryd.prog lp (tlEnc t) W1 fun e W' =>
      e = .returned (.bool true) ∧ J (pre ++ [t]) W' ∧ KeepT n1 Bn Bb W1 W' ∧ W1.heap.size ≤ W'.heap.size)
    (h0 : J [] W) :
    CallsIn Fence.wide n Tryd.prog 104 #[.func (.yield lp) #[] #[], .pointer (some ⟨Bn, 0, none⟩), .pointer (some ⟨Bb, 0, none⟩)] W fun e W' => (∃ v, e = .returned v) ∧ J (tls F x) W' := by
  obtain ⟨hq1, hFN, g, cap, f1, hgl, hcap, hcm, hfz⟩ := hF
  obtain ⟨L, hL⟩ : ∃ z, tls F x = z := ⟨_, rfl⟩
  rw [hL] at hY ⊢
  have HY := Lib.hid hY; have HJ := Lib.hid hJ; have HL := Lib.hid hL; have HZ := Lib.hid hz; have HFN := Lib.hid hFN; have HFZ := Lib.hid hfz; have HW0 := Lib.hid hw0
  have HF1 := Lib.hid f1
  clear hY hJ hL hz hFN hfz hw0 f1
  refine callsIn_of_wp Tryd.func104 rfl trivial ?_ rfl
  simp only [Tryd.ntmps104, List.size_toArray, List.length_cons, List.length_nil, Nat.reduceAdd, Nat.reduceSub, Array.replicate_succ, Array.replicate_zero, List.push_toArray, List.append_toArray, List.nil_append, List.cons_append]
  gi_wp2
  gi_loopw [] (fun wr => ∃ (y : Nat) (pre : List Tl), y < N ∧ Hid (pre ++ tls F y = L) ∧ Hid (J pre wr) ∧ Hid (Below n1 w0 wr) ∧ Hid (Boxed wr Bn 21 (.int .i32 (y : Int))) ∧ Hid (Boxed wr Bb 107 (.pointer (some ⟨q, 0, none⟩))) ∧ Hid (W.heap.size ≤ wr.heap.size))
    (fun wr => match wr.cell? ⟨Bn, 0, none⟩ with | some v => (intOf v).toNat | none => 0)
  case atStart => exact ⟨x, [], hx, Lib.hid (by simpa using HL.out), Lib.hid h0, Lib.hid hW0, Lib.hid hBn, Lib.hid hBb, Lib.hid (Nat.le_refl _)⟩
  case round =>
    clear h0 hBn hBb
    obtain ⟨y, pre, hyN, HP, HJs, HB0, HBn, HBb, HSZ⟩ := hrel
    have d0 := HBn.out.cell
    have HM0 := Lib.hid d0
    have d1 := HBb.out.cell
    by_cases h2 : y ≤ 1
    · have hL : L = pre := by rw [← HP.out, tls_less h2, List.append_nil]
      have HE : Hid (J L wr) := Lib.hid (by rw [hL]; exact HJs.out)
      clear hL
      have hy : y = 0 ∨ y = 1 := by omega
      rcases hy with rfl | rfl
      · gi_wp2
        go_end0
        exact ⟨⟨_, rfl⟩, HE.out⟩
      · gi_wp2
        go_end0
        exact ⟨⟨_, rfl⟩, HE.out⟩
    · obtain ⟨⟨⟨b, r, t⟩, fk, fe⟩, hf⟩ : ∃ f, F[y]? = some f := ⟨_, List.getElem?_eq_getElem (by rw [HFN.out]; exact hyN)⟩
      have hst := tls_step HZ.out (by omega) hf
      obtain ⟨t1, t2, t3, _, _⟩ := HZ.out.tl y _ (by omega) hf
      simp only at hst t1 t2 t3
      obtain ⟨c0, c1, c2, _, _⟩ := HFZ.out y _ hf
      simp only at c0 c1 c2
      have hB := HB0.out
      have e0 := (hB.cell (p := ⟨g, y * 5, none⟩) (show g < n1 by have := HW0.out; omega)).trans c0
      have e1 := (hB.cell (p := ⟨g, y * 5 + 1, none⟩) (show g < n1 by have := HW0.out; omega)).trans c1
      have e2 := (hB.cell (p := ⟨g, y * 5 + 2, none⟩) (show g < n1 by have := HW0.out; omega)).trans c2
      have eq := (hB.cell (p := ⟨q, 1, none⟩) (show q < n1 by have := HW0.out; omega)).trans HF1.out
      have HST := Lib.hid hst
      clear hf hst hB c0 c1 c2
      have y0 : ((y : Int) != 0) = true := by simp; omega
      have y1 : ((y : Int) != 1) = true := by simp; omega
      have y2 : ¬ (y : Int) = 0 := by omega
      have y3 : ¬ (y : Int) = 1 := by omega
      have y4 : (y : Int) < (N : Int) := by omega
      have y5 : (0 : Int) ≤ (y : Int) := by omega
      gi_wp2
      refine wpIn_wide.2 ?_
      apply z_region_at (W := (wr.alloc (.cells #[.int .i32 (b : Int), .int .i32 r, .int .i32 (t : Int)] 112)).drew)
      · go_region_held3 (fun wx => wx.cell? ⟨Bb, 0, none⟩ = some (.pointer (some ⟨q, 0, none⟩)) ∧ wx.cell? ⟨Bn, 0, none⟩ = some (.int .i32 (y : Int)) ∧ wx.cell? ⟨q, 1, none⟩ = some (.slice (some ⟨g, 0, none⟩) N cap) ∧ wx.cell? ⟨g, y * 5, none⟩ = some (.int .i32 (b : Int)) ∧ wx.cell? ⟨g, y * 5 + 1, none⟩ = some (.int .i32 r) ∧ wx.cell? ⟨g, y * 5 + 2, none⟩ = some (.int .i32 (t : Int))) (first | go_keep) (fail)
        all_goals exact ⟨rfl, rfl⟩
      have hal := (bel_one wr (.cells #[.int .i32 (b : Int), .int .i32 r, .int .i32 (t : Int)] 112)).drew
      have a0 := heap_alloc_new wr (.cells #[.int .i32 (b : Int), .int .i32 r, .int .i32 (t : Int)] 112)
      obtain ⟨w2, hw2⟩ : ∃ z, (wr.alloc (.cells #[.int .i32 (b : Int), .int .i32 r, .int .i32 (t : Int)] 112)).drew = z := ⟨_, rfl⟩
      rw [hw2] at hal
      have a1 : w2.heap[wr.heap.size]? = some (.cells #[.int .i32 (b : Int), .int .i32 r, .int .i32 (t : Int)] 112 (0, 0)) := by rw [← hw2]; exact a0
      obtain ⟨pt, hpt⟩ : ∃ z, wr.heap.size = z := ⟨_, rfl⟩
      have hptz : W.heap.size ≤ pt := by have := HSZ.out; omega
      have hwz : wr.heap.size ≤ w2.heap.size := hal.size
      have hgr : wr.grownBy w2 (some Bn) := ⟨hal.os, hal.tape, hal.output, hal.size, fun k hk _ => hal.block k hk⟩
      rw [hw2]
      rw [hpt] at a1 ⊢
      have t0 : w2.cell? ⟨pt, 0, none⟩ = some (.int .i32 (b : Int)) := by rw [cell_of_row _ _ _ _ _ (0, 0) a1]; rfl
      have u1 : w2.cell? ⟨pt, 1, none⟩ = some (.int .i32 r) := by rw [cell_of_row _ _ _ _ _ (0, 0) a1]; rfl
      have u2 : w2.cell? ⟨pt, 2, none⟩ = some (.int .i32 (t : Int)) := by rw [cell_of_row _ _ _ _ _ (0, 0) a1]; rfl
      have hJ2 := HJ.out pre wr w2 HJs.out HSZ.out hgr
      have hpx : pre ++ [(b, r, t)] <+: L := by rw [← HP.out, HST.out]; exact ⟨tls F b, by simp⟩
      have hL2 : (pre ++ [(b, r, t)]) ++ tls F b = L := by rw [← HP.out, HST.out]; simp
      have hY1 := HY.out pre (b, r, t) w2 hJ2 hpx (by have := HSZ.out; omega)
      unfold tlEnc at hY1
      simp only at hY1
      obtain ⟨fn, tmps, assign, body, hy, hR⟩ := hY1
      have HR := Lib.hid hR; have HA1 := Lib.hid a1; have HL2 := Lib.hid hL2
      have hBn2 : Boxed w2 Bn 21 (.int .i32 (y : Int)) := (hal.block Bn HBn.out.lt).trans HBn.out
      have hBb2 : Boxed w2 Bb 107 (.pointer (some ⟨q, 0, none⟩)) := (hal.block Bb HBb.out.lt).trans HBb.out
      have HBn2 := Lib.hid hBn2; have HBb2 := Lib.hid hBb2
      have HB2 : Hid (Below n1 w0 w2) := Lib.hid (HB0.out.trans (hal.mono (show n1 ≤ wr.heap.size by have := HB0.out.size; have := HW0.out; omega)))
      have HS2 : Hid (W.heap.size ≤ w2.heap.size) := Lib.hid (by have := HSZ.out; omega)
      have HNE : Hid (pt ≠ Bn) := Lib.hid (fun e => by have := HBn.out.lt; omega)
      clear hw2 a0 a1 hal hgr hJ2 hpx hL2 hR hBn2 hBb2 e0 e1 e2 eq d0 d1 HJs HBn HBb hwz hpt y0 y1 y2 y3 y4 y5
      gi_wp2
      refine HR.out.mono ?_
      rintro e W3 ⟨rfl, hJ3, hk3, hs3⟩
      have hp3 := hk3.tail pt _ _ (by omega) HA1.out
      have v0 : W3.cell? ⟨pt, 0, none⟩ = some (.int .i32 (b : Int)) := by rw [cell_of_row _ _ _ _ _ (0, 0) hp3]; rfl
      have hBn3 : Boxed W3 Bn 21 (.int .i32 (y : Int)) := hk3.b1.trans HBn2.out
      have c3 := hBn3.cell
      have f3 := hBn3.frozen
      have hg3 := z_grown_set W3 Bn 0 (.int .i32 (b : Int))
      have HJ4 := Lib.hid (HJ.out _ W3 _ hJ3 (by have := HS2.out; omega) hg3)
      have HBn4 : Hid (Boxed (W3.setCell ⟨Bn, 0, none⟩ (.int .i32 (b : Int))) Bn 21 (.int .i32 (b : Int))) := Lib.hid (z_set_cells hBn3 0 _)
      have HBb4 : Hid (Boxed (W3.setCell ⟨Bn, 0, none⟩ (.int .i32 (b : Int))) Bb 107 (.pointer (some ⟨q, 0, none⟩))) := Lib.hid ((hg3.block Bb (by have := HBb2.out.lt; omega) (fun e => hnb (by cases e; rfl))).trans (hk3.b2.trans HBb2.out))
      have HB4 : Hid (Below n1 w0 (W3.setCell ⟨Bn, 0, none⟩ (.int .i32 (b : Int)))) := Lib.hid ((HB2.out.trans hk3.bel).grown hg3 (by have := HB2.out.size; have := HW0.out; omega) (fun k e => by cases e; exact h1n))
      have HS4 : Hid (W.heap.size ≤ (W3.setCell ⟨Bn, 0, none⟩ (.int .i32 (b : Int))).heap.size) := Lib.hid (by have := hg3.size; have := HS2.out; omega)
      have hm3 : (W3.setCell ⟨Bn, 0, none⟩ (.int .i32 (b : Int))).cell? ⟨Bn, 0, none⟩ = some (.int .i32 (b : Int)) := HBn4.out.cell
      have hm0 : wr.cell? ⟨Bn, 0, none⟩ = some (.int .i32 (y : Int)) := HM0.out
      clear hBn3 hg3 hJ3 hk3 hs3 hp3 t0 u1 u2
      gi_wp2
      go_roundw
      case rel => exact ⟨b, _, by omega, HL2, HJ4, HB4, HBn4, HBb4, HS4⟩
      case measure => rw [hm3, hm0]; simp [intOf]; omega
theorem tails_seq (n : Nat) (hn : 1 ≤ n) (Bn Bb n1 q N M : Nat) (F : List Fz) (R : List Rst) (hz : FzOk M F R) (hN5 : N ≤ 5000000) (w0 : World) (hw0 : w0.heap.size = n1) (hF : FrzAt w0 q N F) (x : Nat) (hx : x < N)
    (w : World) (hn1 : n1 ≤ w.heap.size) (hW0 : Below n1 w0 w) (h1n : n1 ≤ Bn) (h1b : n1 ≤ Bb) (hnb : Bn ≠ Bb) (hBn : Boxed w Bn 21 (.int .i32 (x : Int))) (hBb : Boxed w Bb 107 (.pointer (some ⟨q, 0, none⟩))) :
    SeqB n Tryd.prog 104 #[.pointer (some ⟨Bn, 0, none⟩), .pointer (some ⟨Bb, 0, none⟩)] tlEnc (tls F x) (KeepT n1 Bn Bb) (some Bn) w :=
  fun l J W hW hJ hY h0 => tails_in n hn l Bn Bb n1 q N M F R hz hN5 w0 hw0 hF x hx J W (Nat.le_trans hn1 hW.size) (hW0.trans (hW.mono hn1)) h1n h1b hnb ((hW.block Bn hBn.lt).trans hBn) ((hW.block Bb hBb.lt).trans hBb) hJ hY h0
end Go.Proofs.YtnjhbblhlgpgdaaDoor

/- slices.Repeat of one number: a row of its own, all of that number. -/
namespace Go.Proofs.YtnjhbblhlgpgdaaDoor
open Go.RowKit Go.Shelf
attribute [local go_sem] Oper.semAt_some
set_option linter.unusedSimpArgs false
set_option linter.unusedVariables false

theorem make_n32 (w : World) (n : Nat) (hn : n ≤ 10000000) : (Instr.makeSlice 63 (.int .i64 (n : Int)) (.int .i64 (n : Int))).run Tryd.prog w =
    .ok (.slice (some ⟨w.heap.size, 0, none⟩) n n) (w.alloc (.cells (List.replicate n (Value.int .i32 0)).toArray 21)) := by
  have info32' : (Tryd.prog.info? 21).map (fun i => (i.zero, i.size, i.bytes)) = some (some (.int .i32 0), 1, 4) := by kernel_rfl
  obtain ⟨i0, hi, hz0, hz1, hz2⟩ := info_parts info32'
  have h := run_make (P := Tryd.prog) w 63 21 i0 _ Tryd.underlying63 hi hz0 .i64 .i64 (n : Int) (n : Int) (by omega) (Int.le_refl _) (by rw [hz2]; omega) (by omega)
  rw [h, hz1]
  have e : madeCells (Value.int .i32 0).cells (n * 1) = (List.replicate n (Value.int .i32 0)).toArray := by
    rw [Nat.mul_one]
    apply Array.ext
    · simp [size_madeCells]
    · intro i h1 h2
      simp [madeCells, Value.cells, Nat.mod_one]
  simp only [Int.toNat_natCast]
  rw [e]
/-- A row that is filled from its front. -/
def RepR (W : World) (g k j : Nat) (x : Int) : Prop := W.heap[g]? = some (.cells (List.replicate j (Value.int .i32 x) ++ List.replicate (k - j) (Value.int .i32 0)).toArray 21 (0, 0))
theorem RepR.copy {W : World} {g k j : Nat} {x : Int} (h : RepR W g k j x) (hj : j ≤ k) (m : Nat) (hm : m ≤ k - j) (a : Addr) (sLen sCap dCap : Nat) (ha : ∀ i, i < m → W.cell? (a.add i) = some (.int .i32 x)) (hmin : m = Nat.min sLen (k - j)) :
    ∃ W', (Builtin.copy_ #[63, 63] 3 #[.slice (some ⟨g, j, none⟩) (k - j) dCap, .slice (some a) sLen sCap]).run Tryd.prog W = .ok (.int .i64 (m : Int)) W' ∧ RepR W' g k (j + m) x ∧ (∀ B w0, Below B w0 W → B ≤ g → Below B w0 W') := by
  have h' := h
  unfold RepR at h'
  have hrun := run_copy_row (P := Tryd.prog) W 63 63 3 21 g j (k - j) dCap a sLen sCap _ 21 (List.replicate m (Value.int .i32 x)) Tryd.underlying63 (by kernel_rfl) h' (by rw [List.length_replicate]; exact hmin)
    (fun i v hi => by
      have hl := (List.getElem?_eq_some_iff.1 hi).1
      rw [List.length_replicate] at hl
      rw [List.getElem?_replicate, if_pos hl] at hi
      rw [ha i hl]
      exact hi) (by simp; omega) (fun v hv => by rw [List.mem_replicate] at hv; rw [hv.2]; rfl)
  refine ⟨_, by rw [hrun, List.length_replicate]; rfl, ?_, fun B w0 hb hB => below_setRow hb hB _⟩
  unfold RepR
  have e : ((List.replicate j (Value.int .i32 x) ++ List.replicate (k - j) (Value.int .i32 0)).toArray.toList.take j ++ List.replicate m (Value.int .i32 x) ++ (List.replicate j (Value.int .i32 x) ++ List.replicate (k - j) (Value.int .i32 0)).toArray.toList.drop (j + m)) = List.replicate (j + m) (Value.int .i32 x) ++ List.replicate (k - (j + m)) (Value.int .i32 0) := by
    rw [List.take_left' (by simp), List.drop_append, List.drop_of_length_le (by simp), List.length_replicate, show j + m - j = m by omega, List.drop_replicate, List.replicate_append_replicate, List.nil_append, show k - j - m = k - (j + m) by omega]
  rw [e]
  exact setRow_heap W g _ _ _ (0, 0) h'
theorem z_step_copy {P : Program} {ops : Array Oper} {o : Oper} {a : Act} {w : World} {K : Act → World → Prop} {Q : Exit → Act → World → Prop} {E : Prop} (hgd : o.guard = none) (d s : Operand) (t t' : TypeId) (v u v' : Value) (w' : World)
    (ho : o.op = .call { callee := .builtin .copy, args := #[d, s], argTypes := #[t, t'] }) (hrun : (Builtin.copy_ #[t, t'] o.type #[v, u]).run P w = .ok v' w') (hd : a.eval d = v) (hs : a.eval s = u)
    (h : K (a.put o.dst v') w') : if Region.wanted o (yielded ops a.tmps) = true then Oper.wp P o a w K Q else E := by
  have hw : Region.wanted o (yielded ops a.tmps) = true := by simp [Region.wanted, hgd]
  rw [if_pos hw]
  unfold Oper.wp
  simp [execOp, ho, resolve, invoke, builtin, hd, hs, hrun, Result.andThen]
  exact h

set_option maxRecDepth 100000 in
set_option maxHeartbeats 8000000 in
theorem repeat_any (b o k : Nat) (x : Int) (w : World) (hx : w.cell? ⟨b, o, none⟩ = some (.int .i32 x)) (hk1 : 1 ≤ k) (hk : k ≤ 10000000) :
    Calls Tryd.prog 103 #[.slice (some ⟨b, o, none⟩) 1 1, .int .i64 (k : Int)] w fun e w' => e = .returned (.slice (some ⟨w.heap.size, 0, none⟩) k k) ∧
      w'.heap[w.heap.size]? = some (.cells (List.replicate k (Value.int .i32 x)).toArray 21 (0, 0)) ∧ Below w.heap.size w w' := by
  have hmk := make_n32 w k hk
  have hal := bel_one w (.cells (List.replicate k (Value.int .i32 0)).toArray 21)
  have hR0 : RepR (w.alloc (.cells (List.replicate k (Value.int .i32 0)).toArray 21)) w.heap.size k 0 x := by
    have := heap_alloc_new w (.cells (List.replicate k (Value.int .i32 0)).toArray 21)
    unfold RepR
    simpa using this
  have hx1 := cell_keep hal hx
  obtain ⟨wa, hwa⟩ : ∃ z, w.alloc (.cells (List.replicate k (Value.int .i32 0)).toArray 21) = z := ⟨_, rfl⟩
  obtain ⟨g, hg⟩ : ∃ z, w.heap.size = z := ⟨_, rfl⟩
  rw [hwa] at hmk hal hR0 hx1
  rw [hg] at hmk hal hR0 ⊢
  obtain ⟨w1, hr1, hR1, hb1⟩ := hR0.copy (Nat.zero_le _) 1 (by omega) ⟨b, o, none⟩ 1 1 k (fun i hi => by
    obtain rfl : i = 0 := by omega
    simpa [Addr.add] using hx1) (show 1 = min 1 (k - 0) by omega)
  have HB1 := Lib.hid (hb1 g w hal (Nat.le_refl _))
  rw [Nat.sub_zero, Nat.zero_add] at *
  have HR1 := Lib.hid hR1
  have HRUN1 := Lib.hid hr1
  have cm := Tryd.bits_Mul 1 k (by omega) (by omega)
  rw [Nat.one_mul, Nat.div_eq_of_lt (by omega), Nat.mod_eq_of_lt (by omega)] at cm
  have CM := Lib.hid cm
  have u1 : IntKind.u64.wrap (k : Int) = (k : Int) := by rw [IntKind.wrap_u64]; omega
  have u2 : IntKind.i64.wrap (k : Int) = (k : Int) := by rw [IntKind.wrap_i64]; omega
  have i1 : ¬ (k : Int) < 0 := by omega
  have i2 : ¬ (9223372036854775807 : Int) < (k : Int) := by omega
  clear hal hR0 hx1 hb1 hwa hR1 hr1 cm
  go_enter Tryd.func103, Tryd.ntmps103
  go_wp2_with fail
  refine (CM.out _).mono ?_
  rintro e w' ⟨rfl, e8⟩
  obtain rfl := e8.symm
  clear CM
  go_wp2
  rw [HRUN1.out]
  go_wp2
  clear hmk u1 u2 i1 i2
  go_loopw [8] (fun s8 wr => ∃ j : Nat, s8 = .int .i64 j ∧ 1 ≤ j ∧ j ≤ k ∧ Hid (RepR wr g k j x) ∧ Hid (Below g w wr)) (fun s8 _ => k - (RowKit.intOf s8).toNat)
  case atStart => exact ⟨1, rfl, Nat.le_refl _, hk1, HR1, HB1⟩
  case round =>
    obtain ⟨j, rfl, hj1, hjk, HR, HB⟩ := hrel
    clear HR1 HB1 HRUN1
    by_cases hlt : j < k
    · have i1 : (j : Int) < (k : Int) := by omega
      obtain ⟨m, hm⟩ : ∃ z, Nat.min j (k - j) = z := ⟨_, rfl⟩
      have hm1 : 1 ≤ m ∧ m ≤ j ∧ m ≤ k - j := by
        have h1 := Nat.min_le_left j (k - j)
        have h2 := Nat.min_le_right j (k - j)
        have h3 : 0 < min j (k - j) := by omega
        change Nat.min j (k - j) ≤ _ at h1
        change Nat.min j (k - j) ≤ _ at h2
        change 0 < Nat.min j (k - j) at h3
        omega
      obtain ⟨w2, hr2, hR2, hb2⟩ := (show RepR wr.drew g k j x from HR.out).copy (by omega) m hm1.2.2 ⟨g, 0, none⟩ j k (k - j) (fun i hi => by
        rw [show (⟨g, 0, none⟩ : Addr).add i = ⟨g, i, none⟩ by unfold Addr.add; simp <;> omega]
        have h' := HR.out
        unfold RepR at h'
        show wr.cell? ⟨g, i, none⟩ = _
        rw [cell_of_row _ _ _ _ _ (0, 0) h']
        simp
        rw [List.getElem?_append_left (by simp; omega), List.getElem?_replicate, if_pos (by omega)]) hm.symm
      have HR2 := Lib.hid hR2
      have HB2 : Hid (Below g w w2) := Lib.hid (hb2 g w HB.out.drew (Nat.le_refl _))
      have HRUN2 := Lib.hid hr2
      have hwm : IntKind.i64.wrap ((j : Int) + (m : Int)) = (j : Int) + (m : Int) := by rw [IntKind.wrap_i64]; omega
      have hkj : ¬ k = j := by omega
      have i3 : (j : Int) ≤ (k : Int) := by omega
      clear hR2 hb2 hr2 HR HB hm
      go_wp2
      refine wp_region_held_drew (S := fun _ => True) (by kernel_rfl) trivial (fun hS => ?_)
      change wpAnyH _ _ _ _ _ 10 _ _ _
      refine wpAnyH_take (i := 0) (v := .int .i64 (j : Int)) rfl (by kernel_rfl) (by kernel_rfl) (by kernel_rfl) (fun _ _ _ h => h) (Or.inl ⟨by rfl, fun wy hy => by go_simp⟩) hS ?_
      refine wpAnyH_take (i := 1) (v := .slice (some ⟨g, 0, none⟩) k k) rfl (by kernel_rfl) (by kernel_rfl) (by kernel_rfl) (fun _ _ _ h => h) (Or.inl ⟨by rfl, fun wy hy => by go_simp⟩) hS ?_
      refine wpAnyH_take (i := 2) (v := .int .i64 (j : Int)) rfl (by kernel_rfl) (by kernel_rfl) (by kernel_rfl) (fun _ _ _ h => h) (Or.inl ⟨by rfl, fun wy hy => by go_simp⟩) hS ?_
      refine wpAnyH_take (i := 3) (v := .slice (some ⟨g, j, none⟩) (k - j) (k - j)) rfl (by kernel_rfl) (by kernel_rfl) (by kernel_rfl) (fun _ _ _ h => h) (Or.inl ⟨by rfl, fun wy hy => by go_simp⟩) hS ?_
      refine wpAnyH_take (i := 4) (v := .slice (some ⟨g, 0, none⟩) k k) rfl (by kernel_rfl) (by kernel_rfl) (by kernel_rfl) (fun _ _ _ h => h) (Or.inl ⟨by rfl, fun wy hy => by go_simp⟩) hS ?_
      refine wpAnyH_take (i := 5) (v := .int .i64 (j : Int)) rfl (by kernel_rfl) (by kernel_rfl) (by kernel_rfl) (fun _ _ _ h => h) (Or.inl ⟨by rfl, fun wy hy => by go_simp⟩) hS ?_
      refine wpAnyH_take (i := 6) (v := .slice (some ⟨g, 0, none⟩) j k) rfl (by kernel_rfl) (by kernel_rfl) (by kernel_rfl) (fun _ _ _ h => h) (Or.inl ⟨by rfl, fun wy hy => by go_simp⟩) hS ?_
      refine wpAnyH_ready (rs := [7]) (by kernel_rfl) (by simp) ?_
      refine AllReadyH.cons rfl (fun K hK => ?_) AllReadyH.nil
      refine z_step_copy ?_ (.tmp 41) (.tmp 44) 63 63 (.slice (some ⟨g, j, none⟩) (k - j) (k - j)) (.slice (some ⟨g, 0, none⟩) j k) (.int .i64 (m : Int)) w2 ?_ HRUN2.out ?_ ?_ ?_
      · rfl
      · rfl
      · go_simp
      · go_simp
      refine hK.out _ _ trivial (fun hS => ?_)
      refine wpAnyH_take (i := 8) (v := .int .i64 ((j : Int) + (m : Int))) rfl (by kernel_rfl) (by kernel_rfl) (by kernel_rfl) (fun _ _ _ h => h) (Or.inl ⟨by rfl, fun wy hy => by go_simp⟩) hS ?_
      refine wpAnyH_take (i := 9) (v := .int .i64 ((j : Int) + (m : Int))) rfl (by kernel_rfl) (by kernel_rfl) (by kernel_rfl) (fun _ _ _ h => h) (Or.inl ⟨by rfl, fun wy hy => by go_simp⟩) hS ?_
      refine wpAnyH_done (by kernel_rfl) ?_ _
      simp only [Act.put, List.getElem_toArray, List.getElem_cons_zero, List.getElem_cons_succ, List.setIfInBounds_toArray, List.set_cons_succ, List.set_cons_zero]
      go_wp2
      exact ⟨⟨j + m, by go_num, by omega, by omega, HR2, HB2⟩, by simp [RowKit.intOf]; omega⟩
    · obtain rfl : j = k := by omega
      have i1 : ¬ (j : Int) < (j : Int) := by omega
      have hfin := HR.out
      unfold RepR at hfin
      rw [Nat.sub_self, List.replicate_zero, List.append_nil] at hfin
      have HFIN := Lib.hid hfin
      clear hfin HR
      go_wp2
      go_ret
      exact ⟨rfl, HFIN.out, HB.out⟩
end Go.Proofs.YtnjhbblhlgpgdaaDoor

/- A loop over an iterator that makes each element anew: its contract, and the law. -/
namespace Go.Proofs.YtnjhbblhlgpgdaaDoor
open Go.RowKit Go.Shelf
set_option linter.unusedVariables false

/-- All cells lie as they lay. -/
structure KeepsCells (W W' : World) : Prop where
  size : W.heap.size ≤ W'.heap.size
  same : ∀ (k : Nat) (o : Obj), W.heap[k]? = some o → o.isCells = true → W'.heap[k]? = some o
/-- The contract of such an iterator: it hands on N values, each as Pv tells; it turns nothing that was there. -/
def SeqV (n : Nat) (P : Program) (g : Nat) (lb : Array Value) (N : Nat) (Pv : Nat → Value → World → Prop) (Kp : World → World → Prop) (w : World) : Prop :=
  ∀ (l : Nat) (J : Nat → World → Prop) (W : World), Below w.heap.size w W → (∀ i W1 W2, J i W1 → W.heap.size ≤ W1.heap.size → W1.grownBy W2 none → J i W2) →
    (∀ i x W1, J i W1 → i < N → W.heap.size ≤ W1.heap.size → Pv i x W1 → YieldAt Fence.wide (n - 1) P l #[x] W1 fun e W' =>
      e = .returned (.bool true) ∧ J (i + 1) W' ∧ Kp W1 W' ∧ W1.heap.size ≤ W'.heap.size) →
    J 0 W →
    CallsIn Fence.wide n P g (#[.func (.yield l) #[] #[]] ++ lb) W fun e W' => (∃ v, e = .returned v) ∧ J N W'
def valPost (b : Nat) (Kp : World → World → Prop) (I : Nat → World → Prop) (i : Nat) (W : World) : Exit → Act → World → Prop
  | .normal, _, W' => KeepsFrom b W W' ∧ Kp W W' ∧ I i W'
  | _, _, _ => False

theorem wp_range_seqV {n : Nat} {P : Program} {g : Operand} {ps : Array Tmp} {assign body : Code} {Q : Exit → Act → World → Prop} {a : Act} {w : World}
    (h1 : 1 ≤ n) {gf : Nat} {lb : Array Value} (hg : a.eval g = .func (.func gf) #[] lb) (eg : ∀ args w, (callFunc gf args).run P w = .ok (.enter gf args) w)
    {N : Nat} {Pv : Nat → Value → World → Prop} {Kp : World → World → Prop} {w0 : World} (hseq : SeqV (n - 1) P gf lb N Pv Kp w0) (hPv : ∀ i x W W2, Pv i x W → KeepsCells W W2 → Pv i x W2)
    (hKt : ∀ {A B C : World}, Kp A B → Kp B C → Kp A C) (hKb : ∀ (W : World) (l : Nat) (o o' : Obj), w.heap.size ≤ l → W.heap[l]? = some o → o.isCells = false → o.isWalk = false → Kp W (W.putObj l o')) (hb0 : Below w0.heap.size w0 w) (hps : ps.size = 1)
    (I : Nat → World → Prop) (hI : OwnFrom w.heap.size I) (h0 : I 0 w) (a₁ : Value → Act)
    (hassign : ∀ (l : Nat) (x : Value) (W : World) (K : Act → World → Prop), K (a₁ x) W →
      assign.wpIn (Fence.wide.inRound l) (n - 1 - 1) P (Exit.then K (fun _ _ _ => False)) { tmps := (ps.zip #[x]).foldl (fun t (p, v) => t.setIfInBounds p v) a.tmps, defers := [] } W)
    (hbody : ∀ (l : Nat) (pre : Nat) (x : Value) (W : World), w.heap.size + 2 ≤ W.heap.size → I pre W → pre < N → Pv pre x W → body.wpIn (Fence.wide.inRound l) (n - 1 - 1) P (valPost w.heap.size Kp I (pre + 1) W) (a₁ x) W)
    (hdone : ∀ (D : Nat) (W : World), w.heap.size ≤ D → I N W → W.heap[D]? = some (.deferred (some [])) → Q .normal { a with defers := { target := .collected D, args := #[] } :: a.defers } W) :
    (Code.rangeFunc g ps assign body).wpIn Fence.wide n P Q a w := by
  refine wpIn_rangeFunc fun fn hfn => ?_
  obtain ⟨b, hb⟩ : ∃ b, w.heap.size = b := ⟨_, rfl⟩
  obtain ⟨rc, hrc⟩ : ∃ rc : LoopState → Loop, rc = fun st => { state := st, pending := none, fn, tmps := a.tmps, params := ps, assign, body, defers := b } := ⟨_, rfl⟩
  obtain ⟨V, hV⟩ : ∃ V, (w.alloc (.deferred (some []))).alloc (.loop (rc .ready)) = V := ⟨_, rfl⟩
  have hVs : V.heap.size = b + 2 := by rw [← hV]; simp [hb]
  have hL : V.heap[b + 1]? = some (.loop (rc .ready)) := by
    rw [← hV]; have := World.alloc_heap_new (w.alloc (.deferred (some []))) (.loop (rc .ready)); rwa [World.size_alloc, hb] at this
  have hD : V.heap[b]? = some (.deferred (some [])) := by
    rw [← hV, ← hb]; exact (Below.heap_alloc _ _ _ (by simp)).trans (World.alloc_heap_new w _)
  have hI0 : I 0 V := by rw [← hV]; exact hI.alloc _ (hI.alloc _ h0)
  have hbV : Below w0.heap.size w0 V := by
    rw [← hV]; exact hb0.trans ((((Below.refl _ w).alloc (Nat.le_refl _) _).alloc (by simp) _).mono hb0.size)
  rw [hb] at hKb hI hbody hdone
  refine ⟨b + 1, [{ target := .collected b, args := #[] }], V, { target := .fn (.func gf) lb, args := #[.func (.yield (b + 1)) #[] #[]] }, V, gf, #[.func (.yield (b + 1)) #[] #[]] ++ lb, V, ?_, ?_, ?_, ?_, fun _ => h1, ?_⟩
  · rw [← hV, hrc, ← hb]; exact run_enterLoop_outer _ _ _ _ _
  · simp only [resolve, hg]; simp [go_sem]
  · intro f' _; trivial
  · simp [invoke, go_sem, eg]
  refine (hseq (b + 1) (fun pre W => I pre W ∧ W.heap[b + 1]? = some (.loop (rc .ready)) ∧ W.heap[b]? = some (.deferred (some []))) V hbV
    (fun pre A B hJ hs hp => by
      exact ⟨hI pre A B none hJ.1 hp (fun r e => by cases e), (hp.block _ (Array.getElem?_eq_some_iff.1 hJ.2.1).1 (by simp)).trans hJ.2.1, (hp.block _ (Array.getElem?_eq_some_iff.1 hJ.2.2).1 (by simp)).trans hJ.2.2⟩) ?_ ⟨hI0, hL, hD⟩).mono ?_
  · rintro pre x W ⟨hi, hl, hk⟩ hlen hsz hpv
    rw [hVs] at hsz
    have hlt : b + 1 < W.heap.size := by omega
    have hy := run_yield (P := P) (args := #[x]) hl (by rw [hrc]; exact hps.symm)
    rw [hrc] at hy
    obtain ⟨W2, hW2⟩ : ∃ W2, W.putObj (b + 1) (.loop { rc .ready with state := .busy }) = W2 := ⟨_, rfl⟩
    have hl2 : W2.heap[b + 1]? = some (.loop { rc .ready with state := .busy }) := by rw [← hW2]; exact World.putObj_heap_same hlt
    have ho2 : ∀ k, k ≠ b + 1 → W2.heap[k]? = W.heap[k]? := fun k hne => by rw [← hW2]; exact World.putObj_heap_other hne
    have hs2 : W2.heap.size = W.heap.size := by rw [← hW2]; simp
    have hkp2 : Kp W W2 := by rw [← hW2]; exact hKb _ _ _ _ (by omega) hl rfl rfl
    have hi2 : I pre W2 := by rw [← hW2]; exact hI.putObj _ hi (by omega) hl rfl
    refine ⟨fn, _, assign, body, hy, roundIn_of_wpIn hfn (hassign _ x W _ ⟨W2, by rw [← hW2]; exact run_beginRound hl (by rw [hrc]), ?_⟩)⟩
    refine wpIn_mono (hbody _ pre x W2 (by omega) hi2 hlen (hPv _ _ _ _ hpv ⟨by omega, fun k o hk2 ho => (ho2 k (fun e => by rw [e, hl] at hk2; cases hk2; cases ho)).trans hk2⟩)) ?_
    rintro e a3 W3 hp
    cases e with
    | normal =>
      obtain ⟨hk3, hkp3, hi3⟩ := hp
      have hl3 := hk3.same _ _ (by omega) hl2 rfl
      have he := run_endRound (P := P) none hl3
      refine ⟨_, _, he, rfl, ⟨hI.putObj _ hi3 (by omega) hl3 rfl, ?_, ?_⟩, hKt (hKt hkp2 hkp3) (hKb _ _ _ _ (by omega) hl3 rfl rfl), ?_⟩
      · rw [World.putObj_heap_same (Array.getElem?_eq_some_iff.1 hl3).1, hrc]; rfl
      · exact (World.putObj_heap_other (by omega)).trans (hk3.same _ _ (Nat.le_refl _) ((ho2 b (by omega)).trans hk) rfl)
      · have := hk3.size; simp; omega
    | ret => exact hp.elim
    | exit id => exact hp.elim
    | goto t => exact hp.elim
    | panic ch => exact hp.elim
    | outgrown => exact hp.elim
  · rintro e W2 ⟨⟨v, rfl⟩, hi, hl, hk⟩
    have he := run_endLoop (P := P) hl (by rw [hrc]; simp)
    refine ⟨none, _, by rw [hrc] at he; exact he, hdone _ _ (Nat.le_refl _) (hI.putObj _ hi (by omega) hl rfl) ((World.putObj_heap_other (by omega)).trans hk)⟩
end Go.Proofs.YtnjhbblhlgpgdaaDoor

/- dawg.spelled: the runes of each word, handed on. -/
namespace Go.Proofs.YtnjhbblhlgpgdaaDoor
open Go.RowKit Go.Shelf
attribute [local go_sem] Oper.semAt_some
set_option linter.unusedSimpArgs false
set_option linter.unusedVariables false

/-- What a round keeps: all below n0, and one box. -/
def Keep1 (n0 B1 : Nat) (W W' : World) : Prop := Below n0 W W' ∧ W'.heap[B1]? = W.heap[B1]?
theorem Keep1.refl (n0 B1 : Nat) (W : World) : Keep1 n0 B1 W W := ⟨Below.refl _ _, rfl⟩
theorem Keep1.trans {n0 B1 : Nat} {A B C : World} (h : Keep1 n0 B1 A B) (k : Keep1 n0 B1 B C) : Keep1 n0 B1 A C := ⟨h.1.trans k.1, k.2.trans h.2⟩
theorem Keep1.of_below {n0 B1 : Nat} {A B : World} (h : Below A.heap.size A B) (hn : n0 ≤ A.heap.size) (h1 : B1 < A.heap.size) : Keep1 n0 B1 A B := ⟨h.mono hn, h.block B1 h1⟩
theorem keep1_b {n0 B1 : Nat} {w : World} (hn : n0 ≤ w.heap.size) (h1 : B1 < w.heap.size) (W : World) (l : Nat) (o o' : Obj) (hl : w.heap.size ≤ l) (h : W.heap[l]? = some o) (k1 : o.isCells = false) (k2 : o.isWalk = false) : Keep1 n0 B1 W (W.putObj l o') :=
  ⟨belowK_b hn W l o o' hl h k1 k2, World.putObj_heap_other (fun e => by omega)⟩
/-- What is handed on: the runes of the word at a place, in a row of its own. -/
def PvS (rn : List (List Int)) (n1 i : Nat) (x : Value) (W : World) : Prop := ∃ nv l, rn[i]? = some l ∧ n1 ≤ nv ∧ W.ownsRow nv 21 1 x l.length (l.map (Value.int .i32))
theorem PvS.keeps {rn : List (List Int)} {n1 i : Nat} {x : Value} {W W2 : World} (h : PvS rn n1 i x W) (hk : KeepsCells W W2) : PvS rn n1 i x W2 := by
  obtain ⟨nv, l, h1, h2, hl, hv⟩ := h
  refine ⟨nv, l, h1, h2, hl, ?_⟩
  rcases hv with ⟨rfl, h0⟩ | ⟨g, cap, cur, rfl, hg, hh, r1, r2, r3, r4⟩
  · exact .inl ⟨rfl, h0⟩
  · exact .inr ⟨g, cap, cur, rfl, hg, hk.same g _ hh rfl, r1, r2, r3, r4⟩
theorem spelled_any (A : Option Addr) (n c : Nat) (w : World) : Calls Tryd.prog 56 #[.slice A n c] w fun e w' => e = .returned (.func (.func 84) #[] #[.pointer (some ⟨w.heap.size, 0, none⟩)]) ∧ w' = w.alloc (.cells #[.slice A n c] 22) := by
  go_enter Tryd.func56, Tryd.ntmps56
  go_wp2
  go_ret
  exact ⟨rfl, rfl⟩

set_option maxRecDepth 100000 in
set_option maxHeartbeats 8000000 in
theorem spell_in (n : Nat) (hn : 1 ≤ n) (lp Bl n0 : Nat) (A : Option Addr) (N c : Nat) (L : List Wrd) (hN : L.length = N) (hL : N ≤ 2000000) (hv : ∀ x ∈ L, Lib.validD x.1.data.toList = true ∧ x.1.size * 4 ≤ 140737488355328) (w0 : World) (hw0 : w0.heap.size = n0) (hO : Okw w0) (hx : WRuns w0 (.slice A N c) L) (J : Nat → World → Prop)
    (W : World) (hn0 : n0 ≤ W.heap.size) (hW0 : Below n0 w0 W) (hBl : Bl < W.heap.size) (hcl : W.cell? ⟨Bl, 0, none⟩ = some (.slice A N c))
    (hJ : ∀ i W1 W2, J i W1 → W.heap.size ≤ W1.heap.size → W1.grownBy W2 none → J i W2)
    (hY : ∀ i x W1, J i W1 → i < N → W.heap.size ≤ W1.heap.size → PvS (rnW L) W.heap.size i x W1 → YieldAt Fence.wide (n - 1) Tryd.prog lp #[x] W1 fun e W' =>
      e = .returned (.bool true) ∧ J (i + 1) W' ∧ Keep1 n0 Bl W1 W' ∧ W1.heap.size ≤ W'.heap.size)
    (h0 : J 0 W) :
    CallsIn Fence.wide n Tryd.prog 84 #[.func (.yield lp) #[] #[], .pointer (some ⟨Bl, 0, none⟩)] W fun e W' => (∃ v, e = .returned v) ∧ J N W' := by
  have HN := Lib.hid hN; have HX := Lib.hid hx; have HW0 := Lib.hid hw0; have HV := Lib.hid hv; have HO := Lib.hid hO; have HY := Lib.hid hY; have HJ := Lib.hid hJ
  clear hN hx hw0 hv hO hY hJ
  refine callsIn_of_wp Tryd.func84 rfl trivial ?_ rfl
  simp only [Tryd.ntmps84, List.size_toArray, List.length_cons, List.length_nil, Nat.reduceAdd, Nat.reduceSub, Array.replicate_succ, Array.replicate_zero, List.push_toArray, List.append_toArray, List.nil_append, List.cons_append]
  gi_wp2
  gi_loopw [9] (fun s9 wr => ∃ i : Nat, s9 = .int .i64 i ∧ i ≤ N ∧ Hid (J i wr) ∧ Hid (Keep1 n0 Bl W wr) ∧ Hid (W.heap.size ≤ wr.heap.size))
    (fun s9 _ => N - (intOf s9).toNat)
  case atStart => exact ⟨0, rfl, Nat.zero_le _, Lib.hid h0, Lib.hid (Keep1.refl _ _ _), Lib.hid (Nat.le_refl _)⟩
  case round =>
    clear h0
    obtain ⟨i, rfl, hiN, HJs, HK, HSZ⟩ := hrel
    by_cases hk : i < N
    · have k1 : (i : Int) < (N : Int) := by omega
      obtain ⟨⟨p1, p2⟩, hp⟩ : ∃ p, L[i]? = some p := ⟨_, List.getElem?_eq_getElem (by rw [HN.out]; exact hk)⟩
      have BW : Below n0 w0 wr := hW0.trans HK.out.1
      obtain ⟨b, o, rfl, _, hcc⟩ := (HX.out.below (HW0.out.symm ▸ BW)).cells HN.out (by omega)
      obtain ⟨g0, g1⟩ := wrd_cells hcc hp
      simp only at g0 g1
      obtain ⟨hval, hsz⟩ := HV.out _ (List.mem_of_getElem? hp)
      simp only at hval hsz
      have hrn : (rnW L)[i]? = some (rnK p1) := by rw [rnW, List.getElem?_map, hp]; rfl
      have hal := bel_one wr (.cells #[.string p1, .int .i64 p2] 55)
      obtain ⟨i0, i1⟩ := cells2_new wr (.string p1) (.int .i64 p2) 55
      obtain ⟨wa, hwa⟩ : ∃ z, wr.alloc (.cells #[.string p1, .int .i64 p2] 55) = z := ⟨_, rfl⟩
      rw [hwa] at hal i0 i1
      have hOa : Okw wa := HO.out.below (HW0.out.symm ▸ (BW.trans (hal.mono (by have := HSZ.out; omega))))
      have cd := decode_any p1 wa hsz hOa.1 hOa.2
      unfold DecPost at cd
      rw [hval] at cd
      simp only [if_true] at cd
      change Calls _ _ _ wa (fun e w' => ∃ v, e = .returned (.tuple #[v, .int .i64 0]) ∧ w'.ownsRow wa.heap.size 21 1 v (rnK p1).length ((rnK p1).map (Value.int .i32)) ∧ Below wa.heap.size wa w') at cd
      have CD := Lib.hid cd; have HAL := Lib.hid hal; have HRN := Lib.hid hrn; have HWA := Lib.hid hwa
      have HBX := Lib.hid (show wr.heap.size < wa.heap.size by rw [← hwa]; simp)
      clear hcc hp hal hrn hwa cd hval hsz hOa BW
      gi_wp2_with (first
        | (refine ⟨trivial, ?_⟩; gi_at_call 31; rw [HWA.out]; refine (callsIn_wide.2 CD.out).mono ?_; rintro e wd ⟨v, rfl, hov, hbd⟩))
      have hgr : wr.grownBy wd none := grown_none (HAL.out.trans (hbd.mono HAL.out.size))
      have hszd : wr.heap.size ≤ wd.heap.size := hgr.size
      have hJ2 := HJ.out i wr wd HJs.out HSZ.out hgr
      have hY1 := HY.out i v wd hJ2 hk (by have := HSZ.out; omega) ⟨wa.heap.size, rnK p1, HRN.out, by have := HSZ.out; have := HAL.out.size; omega, hov⟩
      obtain ⟨fn, tmps, assign, body, hy, hR⟩ := hY1
      have HR := Lib.hid hR
      have HK2 := Lib.hid (HK.out.trans (Keep1.of_below (HAL.out.trans (hbd.mono HAL.out.size)) (by have := HSZ.out; omega) (by have := HSZ.out; omega)))
      have HS2 := Lib.hid hszd
      clear hov hbd hgr hJ2 hR hszd g0 g1 i0 i1 CD HWA HAL
      gi_wp2
      rw [hy]
      gi_wp2
      refine HR.out.mono ?_
      rintro e W3 ⟨rfl, hJ3, hk3, hs3⟩
      have HJ3 := Lib.hid hJ3; have HK3 := Lib.hid (HK2.out.trans hk3)
      have HS3 : Hid (W.heap.size ≤ W3.heap.size) := Lib.hid (by have := HSZ.out; have := HS2.out; omega)
      clear hJ3 hk3 hs3
      gi_wp2
      go_roundw
      case rel => exact ⟨i + 1, by go_num, by omega, HJ3, HK3, HS3⟩
      case measure => simp [intOf]; omega
    · obtain rfl : i = N := by omega
      have k1 : ¬ (i : Int) < (i : Int) := by omega
      gi_wp2
      go_end0
      exact ⟨⟨_, rfl⟩, HJs.out⟩
theorem spell_seq (n : Nat) (hn : 1 ≤ n) (Bl n0 : Nat) (A : Option Addr) (N c : Nat) (L : List Wrd) (hN : L.length = N) (hL : N ≤ 2000000) (hv : ∀ x ∈ L, Lib.validD x.1.data.toList = true ∧ x.1.size * 4 ≤ 140737488355328) (w0 : World) (hw0 : w0.heap.size = n0) (hO : Okw w0) (hx : WRuns w0 (.slice A N c) L)
    (w : World) (hn0 : n0 ≤ w.heap.size) (hW0 : Below n0 w0 w) (hBl : Bl < w.heap.size) (hcl : w.cell? ⟨Bl, 0, none⟩ = some (.slice A N c)) :
    SeqV n Tryd.prog 84 #[.pointer (some ⟨Bl, 0, none⟩)] N (PvS (rnW L) w.heap.size) (Keep1 n0 Bl) w :=
  fun l J W hW hJ hY h0 => spell_in n hn l Bl n0 A N c L hN hL hv w0 hw0 hO hx J W (Nat.le_trans hn0 hW.size) (hW0.trans (hW.mono hn0)) (Nat.lt_of_lt_of_le hBl hW.size) ((hW.cell (p := ⟨Bl, 0, none⟩) hBl).trans hcl) hJ
    (fun i x W1 hj hi hs hp => hY i x W1 hj hi hs (by obtain ⟨nv, l, a, b, c⟩ := hp; exact ⟨nv, l, a, Nat.le_trans hW.size b, c⟩)) h0
end Go.Proofs.YtnjhbblhlgpgdaaDoor

