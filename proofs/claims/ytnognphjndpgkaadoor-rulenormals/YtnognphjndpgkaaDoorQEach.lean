/- rule.checks, each: the errors of rules, handed on as they stand; the first one. -/
import Derived.Test.YtnognphjndpgkaaDoorPk8
import Derived.Test.YtnognphjndpgkaaDoorPk6
import Derived.WalkMore
namespace Go.Proofs.YtnognphjndpgkaaDoor
open Go.RowKit Go.Shelf
attribute [local go_sem] Oper.semAt_some
set_option linter.unusedSimpArgs false
set_option linter.unusedVariables false

set_option maxRecDepth 100000 in
set_option maxHeartbeats 8000000 in
theorem checks_in (n : Nat) (hn : 1 ≤ n) (l Bs n₀ : Nat) (A : Option Addr) (N c : Nat) (L : List Blk) (hN : L.length = N) (hL : N ≤ 2000000) (hz : szL L) (w0 : World) (hw0 : w0.heap.size = n₀) (hO : Okw w0) (hx : BRuns w0 (.slice A N c) L) (J Jx : List Int → World → Prop)
    (W : World) (hJ : AbidesFrom W.heap.size J)
    (hY : ∀ pre x W1, J pre W1 → pre.length < N → YieldAt Fence.wide (n - 1) Tryd.prog l #[.int .i64 x] W1 fun e W' =>
      (e = .returned (.bool true) ∧ J (pre ++ [x]) W' ∧ Keep n₀ Bs W1 W') ∨ (e = .returned (.bool false) ∧ Jx (pre ++ [x]) W'))
    (hn0 : n₀ ≤ W.heap.size) (hW0 : Below n₀ w0 W) (hBs : Bs < W.heap.size)
    (hc : W.cell? ⟨Bs, 0, none⟩ = some (.slice A N c)) (h0 : J [] W) :
    CallsIn Fence.wide n Tryd.prog 60 #[.func (.yield l) #[] #[], .pointer (some ⟨Bs, 0, none⟩)] W fun e W' => (∃ v, e = .returned v) ∧
      ((∃ ys, ys = L.map rchk ∧ J ys W') ∨ (∃ pre, pre <+: L.map rchk ∧ Jx pre W')) := by
  have HN := Lib.hid hN; have HX := Lib.hid hx; have HZ := Lib.hid hz; have HOK := Lib.hid hO; have HW0 := Lib.hid hw0
  clear hN hx hz hO hw0
  have CK := Lib.hid rcheck_any
  refine callsIn_of_wp Tryd.func60 rfl trivial ?_ rfl
  simp only [Tryd.ntmps60, List.size_toArray, List.length_cons, List.length_nil, Nat.reduceAdd, Nat.reduceSub, Array.replicate_succ, Array.replicate_zero, List.push_toArray, List.append_toArray, List.nil_append, List.cons_append]
  gi_wp2
  gi_loopw [7] (fun s6 wr => ∃ (k : Nat) (pre : List Int), s6 = .int .i64 k ∧ k ≤ N ∧ pre.length = k ∧ Hid (pre = (L.take k).map rchk) ∧ J pre wr ∧ Keep n₀ Bs W wr)
    (fun s6 _ => N - (intOf s6).toNat)
  case atStart => exact ⟨0, [], rfl, Nat.zero_le _, rfl, Lib.hid rfl, h0, Keep.refl _ _ _⟩
  case round =>
    clear h0
    obtain ⟨k, pre, rfl, hkN, hpk, HP, hJs, hKB⟩ := hrel
    by_cases hk : k < N
    · have k1 : (k : Int) < (N : Int) := by omega
      obtain ⟨⟨p1, p2, p3⟩, hp⟩ : ∃ p, L[k]? = some p := ⟨_, List.getElem?_eq_getElem (by rw [HN.out]; exact hk)⟩
      have BW : Below n₀ w0 wr := hW0.trans hKB.1
      obtain ⟨b, o, rfl, _, hcc⟩ := (HX.out.below (HW0.out.symm ▸ BW)).cells HN.out (by omega)
      obtain ⟨g0, g1, g2⟩ := blk_cells hcc hp
      simp only at g0 g1 g2
      have hz1 := HZ.out _ (List.mem_of_getElem? hp)
      simp only at hz1
      have hst : Hid (pre ++ [rchk (p1, p2, p3)] = (L.take (k + 1)).map rchk) := Lib.hid (by rw [HP.out, List.take_add_one, hp]; simp)
      obtain ⟨er, her⟩ : ∃ z, rchk (p1, p2, p3) = z := ⟨_, rfl⟩
      rw [her] at hst
      have hal : Below wr.heap.size wr (wr.alloc (.cells #[.string p1, .string p2, .int .i64 p3] 24)) := blw_one _ _
      have bwa : Below n₀ w0 (wr.alloc (.cells #[.string p1, .string p2, .int .i64 p3] 24)) := BW.trans (hal.mono (Nat.le_trans hn0 hKB.1.size))
      have c5 := CK.out p1 p2 p3 (wr.alloc (.cells #[.string p1, .string p2, .int .i64 p3] 24)) (HOK.out.below (HW0.out.symm ▸ bwa)) hz1.1 hz1.2
      rw [her] at c5
      have CC := Lib.hid c5
      have HAL := Lib.hid hal
      have ltB : Bs < wr.heap.size := Nat.lt_of_lt_of_le hBs hKB.1.size
      have len0 : n₀ ≤ wr.heap.size := Nat.le_trans hn0 hKB.1.size
      clear hcc hp c5 her hal bwa
      gi_wp2_with (refine ⟨trivial, ?_⟩; gi_at_call 12; refine (callsIn_wide.2 CC.out).mono ?_; rintro e w1 ⟨rfl, hb1⟩; have b1 : Below wr.heap.size wr w1 := HAL.out.trans (hb1.mono HAL.out.size); have hJ1 : J pre w1 := hJ _ _ _ none hJs (grown_none b1) (fun _ h => by cases h); have hB1 : Keep n₀ Bs W w1 := hKB.trans (Keep.of_below b1 len0 ltB); obtain ⟨fn, tmps, assign, body, hy, hR⟩ := hY pre er w1 hJ1 (by omega))
      refine hR.mono ?_
      rintro e W3 (⟨rfl, hJ3, hk3⟩ | ⟨rfl, hJx3⟩)
      · gi_wp2
        go_roundw
        case rel => exact ⟨k + 1, pre ++ [er], by go_num, by omega, by simp; omega, hst, hJ3, hB1.trans hk3⟩
        case measure => simp [intOf]; omega
      · gi_wp2
        refine bodyPost_ret (results_none rfl _ _ _) rfl ?_
        exact ⟨⟨_, rfl⟩, .inr ⟨pre ++ [er], by rw [hst.out]; exact (List.take_prefix _ _).map _, hJx3⟩⟩
    · obtain rfl : k = N := by omega
      have HE : Hid (pre = L.map rchk) := Lib.hid (by rw [HP.out, List.take_of_length_le (by rw [HN.out]; exact Nat.le_refl _)])
      gi_wp2
      go_end0
      exact ⟨⟨_, rfl⟩, .inl ⟨pre, HE.out, hJs⟩⟩

theorem checksFn_any (A : Option Addr) (n c : Nat) (w : World) :
    Calls Tryd.prog 48 #[.slice A n c] w fun e w' => e = .returned (.func (.func 60) #[] #[.pointer (some ⟨w.heap.size, 0, none⟩)]) ∧ w' = w.alloc (.cells #[.slice A n c] 22) := by
  go_enter Tryd.func48, Tryd.ntmps48
  go_wp2
  go_ret
  exact ⟨rfl, rfl⟩
theorem checks_stops (n : Nat) (hn : 1 ≤ n) (Bs n₀ : Nat) (A : Option Addr) (N c : Nat) (L : List Blk) (hN : L.length = N) (hL : N ≤ 2000000) (hz : szL L) (w0 : World) (hw0 : w0.heap.size = n₀) (hO : Okw w0) (hx : BRuns w0 (.slice A N c) L)
    (w : World) (hn0 : n₀ ≤ w.heap.size) (hW0 : Below n₀ w0 w) (hBs : Bs < w.heap.size) (hc : w.cell? ⟨Bs, 0, none⟩ = some (.slice A N c)) :
    SeqStopsK Fence.wide n Tryd.prog 60 #[.pointer (some ⟨Bs, 0, none⟩)] (fun x : Int => #[Value.int .i64 x]) (Keep n₀ Bs) (fun ys => ys = L.map rchk) (fun pre => pre <+: L.map rchk) N w :=
  fun l J Jx W hW hJ _ hY h0 => checks_in n hn l Bs n₀ A N c L hN hL hz w0 hw0 hO hx J Jx W hJ hY (Nat.le_trans hn0 hW.size) (hW0.trans (hW.mono hn0)) (Nat.lt_of_lt_of_le hBs hW.size) ((hW.cell (p := ⟨Bs, 0, none⟩) hBs).trans hc) h0

set_option maxRecDepth 100000 in
set_option maxHeartbeats 8000000 in
theorem reach_any (u : Value) (L : List Blk) (w : World) (hO : Okw w) (hu : BRuns w u L) (hl : L.length ≤ 2000000) (hz : szL L) :
    Calls Tryd.prog 25 #[u] w fun e w' => e = .returned (.int .i64 (rall L)) ∧ Below w.heap.size w w' := by
  obtain ⟨A, cc, e⟩ := hu.slice
  subst e
  obtain ⟨N, hN⟩ : ∃ N, L.length = N := ⟨_, rfl⟩
  rw [hN] at hu hl ⊢
  obtain ⟨res, hres⟩ : ∃ z, rall L = z := ⟨_, rfl⟩
  have h1 : (∀ x ∈ L.map rchk, x = 0) → res = 0 := fun h => by rw [← hres]; exact rchk_map_zero h
  have h2 : ∀ z e, (∀ x ∈ z, x = 0) → e ≠ 0 → z ++ [e] <+: L.map rchk → res = e := fun z e a b c => by rw [← hres]; exact rall_first a b c
  rw [hres]
  have H1 := Lib.hid h1; have H2 := Lib.hid h2
  clear h1 h2 hres
  refine (callsIn_wide (n := 6)).1 ?_
  refine callsIn_of_wp_marks Tryd.func25 rfl trivial ?_ rfl
  simp only [Tryd.ntmps25, List.size_toArray, List.length_cons, List.length_nil, Nat.reduceAdd, Nat.reduceSub, Array.replicate_succ, Array.replicate_zero, List.push_toArray, List.append_toArray, List.nil_append, List.cons_append]
  gi_wp2
  refine wpIn_wide.2 (wp_scope_straight ((wpIn_wide (n := 6)).1 ?_))
  gi_wp2_with (first | (refine ⟨trivial, ?_⟩; gi_at_call 48; refine (callsIn_wide.2 (checksFn_any _ _ _ _)).mono ?_; rintro e w' ⟨rfl, rfl⟩) | (refine wpIn_label ?_))
  have bE := Boxed.new w 27 (.int .i64 0)
  have bS := Boxed.new (w.alloc (.cells #[.int .i64 0] 27)) 22 (.slice A N cc)
  rw [World.size_alloc] at bS
  have hB0 : Below w.heap.size w ((w.alloc (.cells #[.int .i64 0] 27)).alloc (.cells #[.slice A N cc] 22)) := ((Below.refl _ w).alloc (Nat.le_refl _) _).alloc (by simp) _
  refine wpIn_rangeFunc_ownG rfl (by decide) (gf := 60) (lb := #[.pointer (some ⟨w.heap.size + 1, 0, none⟩)]) rfl trivial (enters_of Tryd.func60 (by kernel_rfl) rfl)
    (checks_stops 5 (by decide) (w.heap.size + 1) w.heap.size A N cc L hN hl hz w rfl hO hu _ (by simp; omega) hB0 (by simp) bS.cell) Keep.trans (keepK_b (by simp; omega) (by simp)) (Below.refl _ _) (fun _ => rfl)
    (fun (pre : List Int) W => (((∀ x ∈ pre, x = 0) ∧ Boxed W w.heap.size 27 (.int .i64 0)) ∧ Boxed W (w.heap.size + 1) 22 (.slice A N cc)) ∧ Below w.heap.size w W)
    (fun c (pre : List Int) W => (∃ e : Int, (c = .exit 0 ∧ e ≠ 0 ∧ ∃ z, (∀ x ∈ z, x = 0) ∧ pre = z ++ [e]) ∧ Boxed W w.heap.size 27 (.int .i64 e)) ∧ Below w.heap.size w W)
    (OwnFrom.and (OwnFrom.and (OwnFrom.and (ownFrom_pure _ (fun pre : List Int => ∀ x ∈ pre, x = 0)) (Own.from (boxed_own _ _ _) _)) (Own.from (boxed_own _ _ _) _)) (ownFrom_below (Nat.le_refl _) (by simp; omega)))
    (fun c => OwnFrom.and (fun pre W W' row hx hg hr => by
      obtain ⟨e, h1, h2⟩ := hx
      exact ⟨e, h1, (Own.from (boxed_own w.heap.size 27 (fun _ : List Int => Value.int .i64 e)) _) pre W W' row h2 hg hr⟩) (ownFrom_below (Nat.le_refl _) (by simp; omega)))
    ⟨⟨⟨by simp, bE.alloc _⟩, bS⟩, hB0⟩
    (fun x => { tmps := #[.slice A N cc, undef, .int .i64 0, .pointer (some ⟨w.heap.size, 0, none⟩), .int .i64 x, .slice A N cc, .func (.func 60) #[] #[.pointer (some ⟨w.heap.size + 1, 0, none⟩)], .int .i64 x, undef, undef, undef, undef, undef], defers := [] }) ?assign ?body ?done ?stop
  case assign =>
    intro l x W K hK
    gi_wp2
    exact hK
  case body =>
    rintro l pre x W ⟨⟨⟨hp, hE⟩, hS⟩, hB⟩ hlt
    have HP := Lib.hid hp; clear hp
    have hce := hE.cell
    have hfe := hE.frozen
    by_cases hx : x = 0
    · subst hx
      gi_wp2
      exact ⟨KeepsFrom.refl _ _, Keep.refl _ _ _, ⟨⟨fun y hy => by rcases List.mem_append.1 hy with h | h; exact HP.out y h; simpa using h, hE⟩, hS⟩, hB⟩
    · have hx1 : (x == 0) = false := by simpa using hx
      gi_wp2
      exact ⟨(KeepsOthers.setCell _ _ _).from _, ⟨x, ⟨rfl, hx, pre, HP.out, rfl⟩, hE.set _⟩, hB.setCell (p := ⟨w.heap.size, 0, none⟩) (Nat.le_refl _) _⟩
  case done =>
    rintro D ys W hD rfl ⟨⟨⟨hp, hE⟩, hS⟩, hB⟩ hK
    have hce := hE.cell
    have hr : Hid (res = 0) := Lib.hid (H1.out hp)
    clear hp
    gi_wp2
    refine ⟨by simp, .inl ⟨_, _, rfl, run_takeDeferred hK, ?_⟩⟩
    refine ⟨_, results_tmp rfl _ _ _, ?_⟩
    exact ⟨by rw [hr.out]; rfl, hB.trans (belowK_b (w := w) (Nat.le_refl _) W D _ _ (by simp at hD; omega) hK rfl rfl)⟩
  case stop =>
    rintro D c pre W hD hp ⟨⟨e, ⟨rfl, he, z, hz0, rfl⟩, hE⟩, hB⟩ hK
    have hce := hE.cell
    have hr : Hid (res = e) := Lib.hid (H2.out z e hz0 he hp)
    clear hp he hz0
    gi_wp2
    refine ⟨by simp, .inl ⟨_, _, rfl, run_takeDeferred hK, ?_⟩⟩
    refine ⟨_, results_tmp rfl _ _ _, ?_⟩
    exact ⟨by rw [hr.out]; rfl, hB.trans (belowK_b (w := w) (Nat.le_refl _) W D _ _ (by simp at hD; omega) hK rfl rfl)⟩
end Go.Proofs.YtnognphjndpgkaaDoor
