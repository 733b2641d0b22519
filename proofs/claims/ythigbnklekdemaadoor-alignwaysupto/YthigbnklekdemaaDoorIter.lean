/- The runes that runesOf hands on: the iterator's contract, for every text, and for bytes that are none. -/
import Derived.RangeFuncNested
import Derived.RangeFuncBound
import Derived.RangeFuncCalls
import Derived.RangeFuncLeaves
import Derived.RangeFuncBox
import Derived.Shelf.Abstract
import Derived.Shelf.RegionOpen
import Derived.OwnWalkIn
import Derived.TacticsInMore
import Derived.LoopNIn
import Derived.LoopIn
import Derived.Maps.AppendAt
import Derived.Scope
import Derived.Shelf.Unicode.DecodeAny
import Derived.Test.YthigbnklekdemaaDoorBase
import Derived.Test.YthigbnklekdemaaDoorPlain
import Derived.Test.YthigbnklekdemaaDoorShelf
namespace Go.Proofs.YthigbnklekdemaaDoor
open Go.RowKit Go.Shelf
attribute [local go_sem] Oper.semAt_some

/-- The two tables of unicode/utf8, as they are laid. -/
abbrev Tabs (w : World) : Prop := Lib.Utf8Tabs 0 1 w
theorem Tabs.below {w w' : World} (h : Tabs w) (hb : Below w.heap.size w w') : Tabs w' := Utf8Tabs_below h hb

theorem decodeGo_at (s : ByteArray) (k : Nat) (h : k < s.size) : Lib.decodeGo (s.extract k s.size) = Lib.decodeL (s.data.toList.drop k) := by
  have hsz : ¬ (s.extract k s.size).size = 0 := by simp; omega
  unfold Lib.decodeGo Lib.decodeL
  rw [if_neg hsz]
  congr 1
  have := Lib.extract_to_end s k
  rw [← this]
theorem drop_ne (s : ByteArray) (k : Nat) (h : k < s.size) : s.data.toList.drop k ≠ [] := by
  intro e
  have := congrArg List.length e
  rw [List.length_drop, List.length_nil, ← Lib.size_eq] at this
  omega
theorem grown_none {w w' : World} (h : Below w.heap.size w w') : w.grownBy w' none := ⟨h.os, h.tape, h.output, h.size, fun k hk _ => h.block k hk⟩

/-- What a round keeps: all below n₀, and the box of the text. -/
def Keep (n₀ Bs : Nat) (W W' : World) : Prop := Below n₀ W W' ∧ W'.heap[Bs]? = W.heap[Bs]?
theorem Keep.refl (n₀ Bs : Nat) (W : World) : Keep n₀ Bs W W := ⟨Below.refl _ _, rfl⟩
theorem Keep.trans {n₀ Bs : Nat} {A B C : World} (h : Keep n₀ Bs A B) (k : Keep n₀ Bs B C) : Keep n₀ Bs A C := ⟨h.1.trans k.1, k.2.trans h.2⟩
theorem Keep.of_below {n₀ Bs : Nat} {A B : World} (h : Below A.heap.size A B) (hn : n₀ ≤ A.heap.size) (hB : Bs < A.heap.size) : Keep n₀ Bs A B := ⟨h.mono hn, h.block Bs hB⟩
theorem keepK_b {n₀ Bs : Nat} {w : World} (hn : n₀ ≤ w.heap.size) (hBs : Bs < w.heap.size) (W : World) (l : Nat) (o o' : Obj) (hl : w.heap.size ≤ l) (h : W.heap[l]? = some o) (h1 : o.isCells = false) (h2 : o.isWalk = false) : Keep n₀ Bs W (W.putObj l o') :=
  ⟨belowK_b hn W l o o' hl h h1 h2, World.putObj_heap_other (fun e => by omega)⟩

set_option maxRecDepth 100000 in
set_option maxHeartbeats 2000000 in
theorem iter_in (n : Nat) (hn : 1 ≤ n) (l Bs n₀ : Nat) (s : ByteArray) (hs : s.size ≤ maxLen) (J Jx : List Int → World → Prop)
    (W : World) (hJ : AbidesFrom W.heap.size J)
    (hY : ∀ pre x W1, J pre W1 → pre.length < s.size → YieldAt Fence.wide (n - 1) Tryd.prog l #[.int .i32 x] W1 fun e W' =>
      (e = .returned (.bool true) ∧ J (pre ++ [x]) W' ∧ Keep n₀ Bs W1 W') ∨ (e = .returned (.bool false) ∧ Jx (pre ++ [x]) W'))
    (hn0 : n₀ ≤ W.heap.size) (hBs : Bs < W.heap.size) (hT0 : Tabs W) (hlow : 0 < n₀ ∧ 1 < n₀)
    (hc : W.cell? ⟨Bs, 0, none⟩ = some (.string s)) (h0 : J [] W) :
    CallsIn Fence.wide n Tryd.prog 41 #[.func (.yield l) #[] #[], .pointer (some ⟨Bs, 0, none⟩)] W fun e W' => (∃ v, e = .returned v) ∧
      ((∃ ys, ys = items s.data.toList ∧ J ys W') ∨ (∃ pre, pre <+: items s.data.toList ∧ Jx pre W')) := by
  unfold maxLen at hs
  refine callsIn_of_wp Tryd.func41 rfl trivial ?_ rfl
  simp only [Tryd.ntmps41, List.size_toArray, List.length_cons, List.length_nil, Nat.reduceAdd, Nat.reduceSub, Array.replicate_succ, Array.replicate_zero, List.push_toArray, List.append_toArray, List.nil_append, List.cons_append]
  gi_wp2
  gi_loopw [3] (fun p wr => ∃ (k : Nat) (pre : List Int), p = .int .i64 k ∧ k ≤ s.size ∧ pre.length ≤ k ∧ Hid (items s.data.toList = pre ++ items (s.data.toList.drop k)) ∧ J pre wr ∧ Keep n₀ Bs W wr)
    (fun p _ => s.size - (intOf p).toNat)
  case atStart => exact ⟨0, [], rfl, Nat.zero_le _, Nat.le_refl _, Lib.hid (by simp), h0, Keep.refl _ _ _⟩
  case round =>
    obtain ⟨k, pre, rfl, hk, hpk, HI, hJs, hKB⟩ := hrel
    have hB := hKB.1
    have hcell : wr.cell? ⟨Bs, 0, none⟩ = some (.string s) := (World.cell?_of_block hKB.2).trans hc
    have hT : Tabs wr := ⟨fun c h => (hB.cell (p := ⟨_, c, none⟩) hlow.1).trans (hT0.1 c h), fun i h => ⟨(hB.cell (p := ⟨_, 2 * i, none⟩) hlow.2).trans (hT0.2 i h).1, (hB.cell (p := ⟨_, 2 * i + 1, none⟩) hlow.2).trans (hT0.2 i h).2⟩⟩
    by_cases hlt : k < s.size
    · have hd := decodeGo_at s k hlt
      have hne := drop_ne s k hlt
      have hst := items_step _ hne
      have hle := Lib.decodeL_le _ hne
      have hwd := Lib.decodeL_width (s.data.toList.drop k)
      rw [List.length_drop, ← Lib.size_eq] at hle
      have C := Lib.hid (Tryd.utf8_DecodeRuneInString (s.extract k s.size) wr hT)
      rw [hd] at C
      have hbd : badB (s.data.toList.drop k) = decide ((Lib.decodeL (s.data.toList.drop k)).1 = 65533 ∧ (Lib.decodeL (s.data.toList.drop k)).2 = 1) := rfl
      have hdd : items ((s.data.toList.drop k).drop (Lib.decodeL (s.data.toList.drop k)).2) = items (s.data.toList.drop (k + (Lib.decodeL (s.data.toList.drop k)).2)) := by rw [List.drop_drop]
      rw [hdd] at hst
      obtain ⟨R, hR⟩ : ∃ R, (Lib.decodeL (s.data.toList.drop k)).1 = R := ⟨_, rfl⟩
      obtain ⟨K, hK⟩ : ∃ K, (Lib.decodeL (s.data.toList.drop k)).2 = K := ⟨_, rfl⟩
      rw [hR, hK] at C hst hbd
      rw [hK] at hle hwd
      rw [hbd] at hst
      have HS := Lib.hid hst
      clear hst hbd hdd hR hK hd hne
      by_cases hbad : R = 65533 ∧ K = 1
      · obtain ⟨rfl, rfl⟩ := hbad
        gi_wp2_with (refine ⟨trivial, ?_⟩; gi_at_call 42; refine (callsIn_wide.2 C.out).mono ?_; rintro e w1 ⟨rfl, hb1⟩; have hJ1 : J pre w1 := hJ _ _ _ none hJs (grown_none hb1) (fun _ h => by cases h); obtain ⟨fn, tmps, assign, body, hy, hR⟩ := hY pre (-1) w1 hJ1 (by omega))
        refine hR.mono ?_
        rintro e W3 (⟨rfl, hJ3, hk3⟩ | ⟨rfl, hJx3⟩)
        · gi_wp2
          refine bodyPost_ret (results_none rfl _ _ _) rfl ?_
          exact ⟨⟨_, rfl⟩, .inl ⟨pre ++ [-1], by rw [HI.out, HS.out]; simp, hJ3⟩⟩
        · gi_wp2
          refine bodyPost_ret (results_none rfl _ _ _) rfl ?_
          exact ⟨⟨_, rfl⟩, .inr ⟨pre ++ [-1], by rw [HI.out, HS.out]; simp, hJx3⟩⟩
      · have HS2 : Hid (items (s.data.toList.drop k) = (R : Int) :: items (s.data.toList.drop (k + K))) := Lib.hid (by rw [HS.out]; simp [hbad])
        by_cases hr : R = 65533
        · subst hr
          have hk1 : ((K : Int) == 1) = false := by simp; omega
          clear hbad
          gi_wp2_with (refine ⟨trivial, ?_⟩; gi_at_call 42; refine (callsIn_wide.2 C.out).mono ?_; rintro e w1 ⟨rfl, hb1⟩; have hJ1 : J pre w1 := hJ _ _ _ none hJs (grown_none hb1) (fun _ h => by cases h); have hB1 : Keep n₀ Bs W w1 := hKB.trans (Keep.of_below hb1 (Nat.le_trans hn0 hB.size) (Nat.lt_of_lt_of_le hBs hB.size)); obtain ⟨fn, tmps, assign, body, hy, hR⟩ := hY pre 65533 w1 hJ1 (by omega))
          refine hR.mono ?_
          rintro e W3 (⟨rfl, hJ3, hk3⟩ | ⟨rfl, hJx3⟩)
          · gi_wp2
            go_roundw
            case rel => exact ⟨k + K, pre ++ [65533], by go_num, by omega, by simp; omega, Lib.hid (by rw [HI.out, HS2.out]; simp), hJ3, hB1.trans hk3⟩
            case measure => simp [intOf]; omega
          · gi_wp2
            refine bodyPost_ret (results_none rfl _ _ _) rfl ?_
            exact ⟨⟨_, rfl⟩, .inr ⟨pre ++ [65533], by rw [HI.out, HS2.out]; simp [List.prefix_append_right_inj], hJx3⟩⟩
        · have hr1 : ((R : Int) == 65533) = false := by simp; omega
          clear hbad
          gi_wp2_with (refine ⟨trivial, ?_⟩; gi_at_call 42; refine (callsIn_wide.2 C.out).mono ?_; rintro e w1 ⟨rfl, hb1⟩; have hJ1 : J pre w1 := hJ _ _ _ none hJs (grown_none hb1) (fun _ h => by cases h); have hB1 : Keep n₀ Bs W w1 := hKB.trans (Keep.of_below hb1 (Nat.le_trans hn0 hB.size) (Nat.lt_of_lt_of_le hBs hB.size)); obtain ⟨fn, tmps, assign, body, hy, hR⟩ := hY pre (R : Nat) w1 hJ1 (by omega))
          refine hR.mono ?_
          rintro e W3 (⟨rfl, hJ3, hk3⟩ | ⟨rfl, hJx3⟩)
          · gi_wp2
            go_roundw
            case rel => exact ⟨k + K, pre ++ [(R : Int)], by go_num, by omega, by simp; omega, Lib.hid (by rw [HI.out, HS2.out]; simp), hJ3, hB1.trans hk3⟩
            case measure => simp [intOf]; omega
          · gi_wp2
            refine bodyPost_ret (results_none rfl _ _ _) rfl ?_
            exact ⟨⟨_, rfl⟩, .inr ⟨pre ++ [(R : Int)], by rw [HI.out, HS2.out]; simp [List.prefix_append_right_inj], hJx3⟩⟩
    · obtain rfl : k = s.size := by omega
      gi_wp2
      go_end0
      exact ⟨⟨_, rfl⟩, .inl ⟨pre, by rw [HI.out, List.drop_of_length_le (by rw [← Lib.size_eq]; exact Nat.le_refl _), items_nil, List.append_nil], hJs⟩⟩

/-- runesOf(s): s is boxed, and the function value captures the box. -/
theorem runesOf_any (s : ByteArray) (w : World) :
    Calls Tryd.prog 32 #[.string s] w fun e w' => e = .returned (.func (.func 41) #[] #[.pointer (some ⟨w.heap.size, 0, none⟩)]) ∧ w' = w.alloc (.cells #[.string s] 9) := by
  go_enter Tryd.func32, Tryd.ntmps32
  go_wp2
  go_ret
  exact ⟨rfl, rfl⟩

theorem iter_stops (n : Nat) (hn : 1 ≤ n) (Bs n₀ : Nat) (s : ByteArray) (hs : s.size ≤ maxLen) (w : World) (hn0 : n₀ ≤ w.heap.size) (hBs : Bs < w.heap.size) (hT : Tabs w) (hlow : 0 < n₀ ∧ 1 < n₀)
    (hc : w.cell? ⟨Bs, 0, none⟩ = some (.string s)) :
    SeqStopsK Fence.wide n Tryd.prog 41 #[.pointer (some ⟨Bs, 0, none⟩)] (fun x : Int => #[Value.int .i32 x]) (Keep n₀ Bs) (fun ys => ys = items s.data.toList) (fun pre => pre <+: items s.data.toList) s.size w :=
  fun l J Jx W hW hJ _ hY h0 => iter_in n hn l Bs n₀ s hs J Jx W hJ hY (Nat.le_trans hn0 hW.size) (Nat.lt_of_lt_of_le hBs hW.size) (hT.below hW) hlow ((hW.cell (p := ⟨Bs, 0, none⟩) hBs).trans hc) h0
end Go.Proofs.YthigbnklekdemaaDoor
