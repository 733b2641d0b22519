/- (*dawg.Dawg).All: words handed on with their places. -/
import Derived.Test.YtnjhbblhlgpgdaaDoorPk18
import Derived.Test.YtnjhbblhlgpgdaaDoorPk12
namespace Go.Proofs.YtnjhbblhlgpgdaaDoor
open Go.RowKit Go.Shelf
attribute [local go_sem] Oper.semAt_some
set_option linter.unusedSimpArgs false
set_option linter.unusedVariables false

def allEnc (l : List Wrd) (i : Nat) : Array Value := #[.int .i64 (i : Int), .string (wget l i).1]

set_option maxRecDepth 100000 in
set_option maxHeartbeats 8000000 in
theorem all_in (n : Nat) (hn : 1 ≤ n) (lp Bd n₀ d N : Nat) (L : List Wrd) (hN : L.length = N) (hw : wisS L = 0) (Q : List Rst) (hQ : staQ (rnW L) = Q) (w0 : World) (hw0 : w0.heap.size = n₀) (hx : DgAt w0 d Q L) (J Jx : List Nat → World → Prop)
    (W : World) (hJ : ∀ pre A B, J pre A → A.grownBy B none → J pre B)
    (hY : ∀ pre x W1, J pre W1 → pre.length < N → YieldAt Fence.wide (n - 1) Tryd.prog lp (allEnc L x) W1 fun e W' =>
      (e = .returned (.bool true) ∧ J (pre ++ [x]) W' ∧ Keep1 n₀ Bd W1 W') ∨ (e = .returned (.bool false) ∧ Jx (pre ++ [x]) W'))
    (hn0 : n₀ ≤ W.heap.size) (hW0 : Below n₀ w0 W) (hBd : Bd < W.heap.size)
    (hcd : W.cell? ⟨Bd, 0, none⟩ = some (.pointer (some ⟨d, 0, none⟩))) (h0 : J [] W) :
    CallsIn Fence.wide n Tryd.prog 51 #[.func (.yield lp) #[] #[], .pointer (some ⟨Bd, 0, none⟩)] W fun e W' => (∃ v, e = .returned v) ∧
      ((∃ ys, ys = List.range N ∧ J ys W') ∨ (∃ pre, pre <+: List.range N ∧ Jx pre W')) := by
  have hNb : N ≤ 2000000 := by rw [← hN]; exact Nat.le_trans (wisS_facts hw).2.2 (by decide)
  have cl := len_any W d Q L (hx.below (hw0.symm ▸ hW0))
  rw [hN] at cl
  have cw := fun (i : Nat) (x : Wrd) (hx' : L[i]? = some x) w' (hb : Below n₀ w0 w') => word_in w' d L hw Q hQ (hx.below (hw0.symm ▸ hb)) i x hx'
  have HN := Lib.hid hN; have CL := Lib.hid cl; have CW := Lib.hid cw; have HJ := Lib.hid hJ; have HY := Lib.hid hY
  clear hN hx hw0 cl cw hw hQ hJ hY
  refine callsIn_of_wp Tryd.func51 rfl trivial ?_ rfl
  simp only [Tryd.ntmps51, List.size_toArray, List.length_cons, List.length_nil, Nat.reduceAdd, Nat.reduceSub, Array.replicate_succ, Array.replicate_zero, List.push_toArray, List.append_toArray, List.nil_append, List.cons_append]
  gi_wp2_with (first
    | (refine ⟨trivial, ?_⟩; gi_at_call 18; refine (callsIn_wide.2 CL.out).mono ?_; rintro e w' ⟨rfl, e1⟩; obtain rfl := e1.symm))
  gi_loopw [8] (fun s8 wr => ∃ (i : Nat) (pre : List Nat), s8 = .int .i64 i ∧ i ≤ N ∧ pre.length = i ∧ Hid (pre = List.range i) ∧ Hid (J pre wr) ∧ Hid (Keep1 n₀ Bd W wr))
    (fun s8 _ => N - (intOf s8).toNat)
  case atStart => exact ⟨0, [], rfl, Nat.zero_le _, rfl, Lib.hid (by simp), Lib.hid h0, Lib.hid (Keep1.refl _ _ _)⟩
  case round =>
    clear h0
    obtain ⟨i, pre, rfl, hiN, hpk, HP, HJs, HKB⟩ := hrel
    have cl := (World.cell?_of_block HKB.out.2).trans hcd
    by_cases hk : i < N
    · have k1 : (i : Int) < (N : Int) := by omega
      obtain ⟨⟨p1, p2⟩, hp⟩ : ∃ p, L[i]? = some p := ⟨_, List.getElem?_eq_getElem (by rw [HN.out]; exact hk)⟩
      have BW : Below n₀ w0 wr := hW0.trans HKB.out.1
      have cd := CW.out i _ hp wr BW
      simp only at cd
      have CD := Lib.hid cd
      have hwg := wget_at hp
      have hst : Hid (pre ++ [i] = List.range (i + 1)) := Lib.hid (by rw [HP.out, List.range_succ])
      have HPX := Lib.hid (show List.range (i + 1) <+: List.range N from by
        have := List.take_prefix (i + 1) (List.range N)
        rwa [List.take_range, Nat.min_eq_left (by omega)] at this)
      have HWG := Lib.hid hwg
      clear cd hp hwg BW
      gi_wp2_with (first
        | (refine ⟨trivial, ?_⟩; gi_at_call 28; refine (callsIn_wide.2 CD.out).mono ?_; rintro e w5 ⟨rfl, b5⟩))
      have hJ5 := HJ.out pre wr w5 HJs.out (grown_none b5)
      have hK5 := HKB.out.trans (Keep1.of_below b5 (by have := HKB.out.1.size; omega) (by have := HKB.out.1.size; omega))
      have b6 := bel_one w5 (.cells #[.string p1, .int .i64 p2] 55)
      have hJ6 := HJ.out pre w5 _ hJ5 (grown_none b6)
      have hK6 := hK5.trans (Keep1.of_below b6 (by have := hK5.1.size; omega) (by have := hK5.1.size; omega))
      have hY1 := HY.out pre i _ hJ6 (by omega)
      unfold allEnc at hY1
      rw [HWG.out] at hY1
      simp only at hY1
      obtain ⟨fn, tmps, assign, body, hy, hR⟩ := hY1
      have HR := Lib.hid hR; have HK6 := Lib.hid hK6
      clear hR hJ5 hK5 b5 b6 hJ6 hK6 CD
      gi_wp2
      rw [hy]
      gi_wp2
      refine HR.out.mono ?_
      rintro e W3 (⟨rfl, hJ3, hk3⟩ | ⟨rfl, hJx3⟩)
      · have HJ3 := Lib.hid hJ3; have HK3 := Lib.hid (HK6.out.trans hk3)
        gi_wp2
        go_roundw
        case rel => exact ⟨i + 1, pre ++ [i], by go_num, by omega, by simp; omega, hst, HJ3, HK3⟩
        case measure => simp [intOf]; omega
      · gi_wp2
        refine bodyPost_ret (results_none rfl _ _ _) rfl ?_
        exact ⟨⟨_, rfl⟩, .inr ⟨pre ++ [i], by rw [hst.out]; exact HPX.out, hJx3⟩⟩
    · obtain rfl : i = N := by omega
      have k1 : ¬ (i : Int) < (i : Int) := by omega
      gi_wp2
      go_end0
      have hJs' : J (List.range i) wr := by rw [← HP.out]; exact HJs.out
      exact ⟨⟨_, rfl⟩, .inl hJs'⟩
theorem all_stops (n : Nat) (hn : 1 ≤ n) (Bd n₀ d N : Nat) (L : List Wrd) (hN : L.length = N) (hw : wisS L = 0) (Q : List Rst) (hQ : staQ (rnW L) = Q) (w0 : World) (hw0 : w0.heap.size = n₀) (hx : DgAt w0 d Q L)
    (w : World) (hn0 : n₀ ≤ w.heap.size) (hW0 : Below n₀ w0 w) (hBd : Bd < w.heap.size) (hcd : w.cell? ⟨Bd, 0, none⟩ = some (.pointer (some ⟨d, 0, none⟩))) :
    SeqStopsK Fence.wide n Tryd.prog 51 #[.pointer (some ⟨Bd, 0, none⟩)] (allEnc L) (Keep1 n₀ Bd) (fun ys => ys = List.range N) (fun pre => pre <+: List.range N) N w :=
  fun l J Jx W hW hJ _ hY h0 => all_in n hn l Bd n₀ d N L hN hw Q hQ w0 hw0 hx J Jx W (fun pre A B hj hg => hJ pre A B none hj hg (by simp)) hY (Nat.le_trans hn0 hW.size) (hW0.trans (hW.mono hn0)) (Nat.lt_of_lt_of_le hBd hW.size) ((hW.cell (p := ⟨Bd, 0, none⟩) hBd).trans hcd) h0
end Go.Proofs.YtnjhbblhlgpgdaaDoor
