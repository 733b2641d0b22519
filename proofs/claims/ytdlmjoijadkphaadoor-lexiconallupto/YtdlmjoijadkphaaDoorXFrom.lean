/- lexicon.from: words from a place on, handed on with their places. -/
import Derived.Test.YtdlmjoijadkphaaDoorPk3
import Derived.Test.YtdlmjoijadkphaaDoorPk1
import Derived.RangeFuncNested
import Derived.RangeFuncLeaves
import Derived.WalkMore
namespace Go.Proofs.YtdlmjoijadkphaaDoor
open Go.RowKit Go.Shelf
attribute [local go_sem] Oper.semAt_some
set_option linter.unusedSimpArgs false
set_option linter.unusedVariables false

def wget (l : List Wrd) (i : Nat) : Wrd := l.getD i (⟨#[]⟩, 0)
theorem wget_at {l : List Wrd} {i : Nat} {x : Wrd} (h : l[i]? = some x) : wget l i = x := by unfold wget; rw [List.getD_eq_getElem?_getD, h]; rfl
def fromEnc (l : List Wrd) (i : Nat) : Array Value := #[.int .i64 (i : Int), .agg #[.string (wget l i).1, .int .i64 (wget l i).2]]
/-- What a round keeps: all below n₀, and two boxes. -/
def Keep2 (n₀ B1 B2 : Nat) (W W' : World) : Prop := Below n₀ W W' ∧ W'.heap[B1]? = W.heap[B1]? ∧ W'.heap[B2]? = W.heap[B2]?
theorem Keep2.refl (n₀ B1 B2 : Nat) (W : World) : Keep2 n₀ B1 B2 W W := ⟨Below.refl _ _, rfl, rfl⟩
theorem Keep2.trans {n₀ B1 B2 : Nat} {A B C : World} (h : Keep2 n₀ B1 B2 A B) (k : Keep2 n₀ B1 B2 B C) : Keep2 n₀ B1 B2 A C := ⟨h.1.trans k.1, k.2.1.trans h.2.1, k.2.2.trans h.2.2⟩
theorem Keep2.of_below {n₀ B1 B2 : Nat} {A B : World} (h : Below A.heap.size A B) (hn : n₀ ≤ A.heap.size) (h1 : B1 < A.heap.size) (h2 : B2 < A.heap.size) : Keep2 n₀ B1 B2 A B := ⟨h.mono hn, h.block B1 h1, h.block B2 h2⟩
theorem keep2_b {n₀ B1 B2 : Nat} {w : World} (hn : n₀ ≤ w.heap.size) (h1 : B1 < w.heap.size) (h2 : B2 < w.heap.size) (W : World) (l : Nat) (o o' : Obj) (hl : w.heap.size ≤ l) (h : W.heap[l]? = some o) (k1 : o.isCells = false) (k2 : o.isWalk = false) : Keep2 n₀ B1 B2 W (W.putObj l o') :=
  ⟨belowK_b hn W l o o' hl h k1 k2, World.putObj_heap_other (fun e => by omega), World.putObj_heap_other (fun e => by omega)⟩

set_option maxRecDepth 100000 in
set_option maxHeartbeats 8000000 in
theorem from_in (n : Nat) (hn : 1 ≤ n) (lp Bl Ba n₀ : Nat) (A : Option Addr) (N c a0 : Nat) (L : List Wrd) (hN : L.length = N) (hL : N ≤ 2000000) (ha : a0 ≤ N) (w0 : World) (hw0 : w0.heap.size = n₀) (hx : WRuns w0 (.slice A N c) L) (J Jx : List Nat → World → Prop)
    (W : World)
    (hY : ∀ pre x W1, J pre W1 → pre.length < N → YieldAt Fence.wide (n - 1) Tryd.prog lp (fromEnc L x) W1 fun e W' =>
      (e = .returned (.bool true) ∧ J (pre ++ [x]) W' ∧ Keep2 n₀ Bl Ba W1 W') ∨ (e = .returned (.bool false) ∧ Jx (pre ++ [x]) W'))
    (hn0 : n₀ ≤ W.heap.size) (hW0 : Below n₀ w0 W) (hBl : Bl < W.heap.size) (hBa : Ba < W.heap.size)
    (hcl : W.cell? ⟨Bl, 0, none⟩ = some (.slice A N c)) (hca : W.cell? ⟨Ba, 0, none⟩ = some (.int .i64 (a0 : Nat))) (h0 : J [] W) :
    CallsIn Fence.wide n Tryd.prog 44 #[.func (.yield lp) #[] #[], .pointer (some ⟨Ba, 0, none⟩), .pointer (some ⟨Bl, 0, none⟩)] W fun e W' => (∃ v, e = .returned v) ∧
      ((∃ ys, ys = List.range' a0 (N - a0) ∧ J ys W') ∨ (∃ pre, pre <+: List.range' a0 (N - a0) ∧ Jx pre W')) := by
  have HN := Lib.hid hN; have HX := Lib.hid hx; have HW0 := Lib.hid hw0
  clear hN hx hw0
  refine callsIn_of_wp Tryd.func44 rfl trivial ?_ rfl
  simp only [Tryd.ntmps44, List.size_toArray, List.length_cons, List.length_nil, Nat.reduceAdd, Nat.reduceSub, Array.replicate_succ, Array.replicate_zero, List.push_toArray, List.append_toArray, List.nil_append, List.cons_append]
  gi_wp2
  gi_loopw [4] (fun s4 wr => ∃ (i : Nat) (pre : List Nat), s4 = .int .i64 i ∧ a0 ≤ i ∧ i ≤ N ∧ pre.length = i - a0 ∧ Hid (pre = List.range' a0 (i - a0)) ∧ J pre wr ∧ Keep2 n₀ Bl Ba W wr)
    (fun s4 _ => N - (intOf s4).toNat)
  case atStart => exact ⟨a0, [], rfl, Nat.le_refl _, ha, by simp, Lib.hid (by simp), h0, Keep2.refl _ _ _ _⟩
  case round =>
    clear h0
    obtain ⟨i, pre, rfl, hai, hiN, hpk, HP, hJs, hKB⟩ := hrel
    have cl := (World.cell?_of_block hKB.2.1).trans hcl
    by_cases hk : i < N
    · have k1 : (i : Int) < (N : Int) := by omega
      obtain ⟨⟨p1, p2⟩, hp⟩ : ∃ p, L[i]? = some p := ⟨_, List.getElem?_eq_getElem (by rw [HN.out]; exact hk)⟩
      have BW : Below n₀ w0 wr := hW0.trans hKB.1
      obtain ⟨b, o, rfl, _, hcc⟩ := (HX.out.below (HW0.out.symm ▸ BW)).cells HN.out (by omega)
      obtain ⟨g0, g1⟩ := wrd_cells hcc hp
      simp only at g0 g1
      have hwg := wget_at hp
      have hst : Hid (pre ++ [i] = List.range' a0 (i + 1 - a0)) := Lib.hid (by
        rw [HP.out, show i + 1 - a0 = (i - a0) + 1 by omega, List.range'_concat, show a0 + 1 * (i - a0) = i by omega])
      have hY1 := hY pre i wr hJs (by omega)
      unfold fromEnc at hY1
      rw [hwg] at hY1
      simp only at hY1
      obtain ⟨fn, tmps, assign, body, hy, hR⟩ := hY1
      have HR := Lib.hid hR
      have HK := Lib.hid hKB
      have HPX := Lib.hid (show List.range' a0 (i + 1 - a0) <+: List.range' a0 (N - a0) from by
        rw [show N - a0 = (i + 1 - a0) + (N - i - 1) by omega, ← List.range'_append_1]
        exact List.prefix_append _ _)
      clear hcc hp hwg hY hR hKB
      gi_wp2
      refine HR.out.mono ?_
      rintro e W3 (⟨rfl, hJ3, hk3⟩ | ⟨rfl, hJx3⟩)
      · gi_wp2
        go_roundw
        case rel => exact ⟨i + 1, pre ++ [i], by go_num, by omega, by omega, by simp; omega, hst, hJ3, HK.out.trans hk3⟩
        case measure => simp [intOf]; omega
      · gi_wp2
        refine bodyPost_ret (results_none rfl _ _ _) rfl ?_
        exact ⟨⟨_, rfl⟩, .inr ⟨pre ++ [i], by rw [hst.out]; exact HPX.out, hJx3⟩⟩
    · obtain rfl : i = N := by omega
      have k1 : ¬ (i : Int) < (i : Int) := by omega
      gi_wp2
      go_end0
      have hJs' : J (List.range' a0 (i - a0)) wr := by rw [← HP.out]; exact hJs
      exact ⟨⟨_, rfl⟩, .inl hJs'⟩

theorem from_any (A : Option Addr) (n c : Nat) (a0 : Int) (w : World) :
    Calls Tryd.prog 32 #[.slice A n c, .int .i64 a0] w fun e w' => e = .returned (.func (.func 44) #[] #[.pointer (some ⟨w.heap.size + 1, 0, none⟩), .pointer (some ⟨w.heap.size, 0, none⟩)]) ∧ w' = (w.alloc (.cells #[.slice A n c] 22)).alloc (.cells #[.int .i64 a0] 3) := by
  go_enter Tryd.func32, Tryd.ntmps32
  go_wp2
  go_ret
  exact ⟨rfl, rfl⟩
theorem from_stops (n : Nat) (hn : 1 ≤ n) (Bl Ba n₀ : Nat) (A : Option Addr) (N c a0 : Nat) (L : List Wrd) (hN : L.length = N) (hL : N ≤ 2000000) (ha : a0 ≤ N) (w0 : World) (hw0 : w0.heap.size = n₀) (hx : WRuns w0 (.slice A N c) L)
    (w : World) (hn0 : n₀ ≤ w.heap.size) (hW0 : Below n₀ w0 w) (hBl : Bl < w.heap.size) (hBa : Ba < w.heap.size) (hcl : w.cell? ⟨Bl, 0, none⟩ = some (.slice A N c)) (hca : w.cell? ⟨Ba, 0, none⟩ = some (.int .i64 (a0 : Nat))) :
    SeqStopsK Fence.wide n Tryd.prog 44 #[.pointer (some ⟨Ba, 0, none⟩), .pointer (some ⟨Bl, 0, none⟩)] (fromEnc L) (Keep2 n₀ Bl Ba) (fun ys => ys = List.range' a0 (N - a0)) (fun pre => pre <+: List.range' a0 (N - a0)) N w :=
  fun l J Jx W hW hJ _ hY h0 => from_in n hn l Bl Ba n₀ A N c a0 L hN hL ha w0 hw0 hx J Jx W hY (Nat.le_trans hn0 hW.size) (hW0.trans (hW.mono hn0)) (Nat.lt_of_lt_of_le hBl hW.size) (Nat.lt_of_lt_of_le hBa hW.size) ((hW.cell (p := ⟨Bl, 0, none⟩) hBl).trans hcl) ((hW.cell (p := ⟨Ba, 0, none⟩) hBa).trans hca) h0
end Go.Proofs.YtdlmjoijadkphaaDoor
