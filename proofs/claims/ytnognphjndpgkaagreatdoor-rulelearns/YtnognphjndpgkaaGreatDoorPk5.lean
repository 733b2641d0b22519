/- Texts that several proofs of this seat share, one behind the other: ASteps ASteps2 ASame ALaw1 GDist. -/
import Derived.Test.YtnognphjndpgkaaGreatDoorPk3
import Derived.StillTailTactics
import Derived.Deep.RegionLaw
import Derived.Laws.StructEq
import Derived.Test.YtnognphjndpgkaaGreatDoorPk4
/- The steps of two tokens, as errataref04.Steps tells them. -/
namespace Go.Proofs.YtnognphjndpgkaaGreatDoor
open Go.RowKit Go.Shelf

theorem step_append_run {P : Program} {ops : Array Oper} {o : Oper} {a : Act} {w : World} {K : Act → World → Prop} {Q : Exit → Act → World → Prop} {E : Prop} (hgd : o.guard = none) (s x : Operand) (t : TypeId) (v u v' : Value) (w' : World)
    (ho : o.op = .call { callee := .builtin .append, args := #[s, x], argTypes := #[t, t] }) (hrun : (Builtin.append_ #[t, t] o.type #[v, u]).run P w = .ok v' w') (hs : a.eval s = v) (hx : a.eval x = u)
    (h : K (a.put o.dst v') w') : if Region.wanted o (yielded ops a.tmps) = true then Oper.wp P o a w K Q else E := by
  have hw : Region.wanted o (yielded ops a.tmps) = true := by simp [Region.wanted, hgd]
  rw [if_pos hw]
  unfold Oper.wp
  simp [execOp, ho, resolve, invoke, builtin, hs, hx, hrun, Result.andThen]
  exact h
theorem stRuns_lit (w : World) (s : St) : StRuns (w.alloc (.cells #[.int .i64 s.1, .int .i32 s.2.1, .int .i32 s.2.2] 90)) (.slice (some ⟨w.heap.size, 0, none⟩) 1 1) [s] :=
  ⟨_, 1, rfl, by simp, ⟨by simp [maxLen], fun h => by cases h⟩, fun _ => ⟨w.heap.size, 0, rfl, by simp, fun j hj => by
    have : j = 0 := by simpa using hj
    subst this
    simp⟩⟩
theorem stCells_snoc (l : List St) (s : St) : stCells (l ++ [s]) = stCells l ++ stCell s := by simp [stCells]
/-- append(v, s) to a row of steps of the call's own. -/
theorem append_step (w : World) (base : Nat) (v : Value) (pre : List St) (hown : w.ownsRow base 90 3 v pre.length (stCells pre)) (s : St) (hbase : base ≤ w.heap.size) (hlen : (pre.length + 1) * 16 ≤ 140737488355328) :
    ∃ v' w', (Builtin.append_ #[65, 65] 65 #[v, .slice (some ⟨w.heap.size, 0, none⟩) 1 1]).run Tryz.prog (w.alloc (.cells #[.int .i64 s.1, .int .i32 s.2.1, .int .i32 s.2.2] 90)) = .ok v' w' ∧
      w'.ownsRow base 90 3 v' (pre ++ [s]).length (stCells (pre ++ [s])) ∧ Below base w w' := by
  have hba : Below w.heap.size w (w.alloc (.cells #[.int .i64 s.1, .int .i32 s.2.1, .int .i32 s.2.2] 90)) := (Below.refl _ _).alloc (Nat.le_refl _) _
  obtain ⟨v', w', hrun, h2, h3, _⟩ := append_steps (w.alloc (.cells #[.int .i64 s.1, .int .i32 s.2.1, .int .i32 s.2.2] 90)) base v pre.length _ (own_below hown hba) _ [s] (stRuns_lit w s) (by simp; omega) (by simpa using hlen)
  refine ⟨v', w', hrun, ?_, (hba.mono hbase).grown h3 (by simp; omega) (own_block hown)⟩
  rw [stCells_snoc, List.length_append]
  simpa [stCells] using h2

set_option maxRecDepth 100000 in
set_option maxHeartbeats 40000000 in
theorem refSteps_ok (s t : ByteArray) (w : World) (hs : s.size * 4 ≤ 140737488355328) (ht : t.size * 4 ≤ 140737488355328) (h1 : tokErr s.data.toList = 0) (h2 : tokErr t.data.toList = 0) :
    Calls Tryz.prog 37 #[.string s, .string t] w fun e w' => ∃ v, e = .returned (.tuple #[v, .int .i64 0]) ∧ StRuns w' v (pathR (tokRunes s.data.toList).reverse (tokRunes t.data.toList).reverse).reverse ∧ Below w.heap.size w w' := by
  have c := refTokens_ok s t w hs ht h1
  obtain ⟨lx, _⟩ := tok_len h1
  obtain ⟨ly, _⟩ := tok_len h2
  rw [h2] at c
  clear h1 h2
  obtain ⟨x, hx⟩ : ∃ x, tokRunes s.data.toList = x := ⟨_, rfl⟩
  obtain ⟨y, hy⟩ : ∃ y, tokRunes t.data.toList = y := ⟨_, rfl⟩
  rw [hx] at lx ⊢
  rw [hy] at ly ⊢
  simp only [hx, hy] at c
  clear hx hy
  obtain ⟨res, hres⟩ : ∃ r, r = (pathR x.reverse y.reverse).reverse := ⟨_, rfl⟩
  rw [← hres]
  have HRes := Lib.hid hres; clear hres
  have tb := fun (w : World) (u v : Value) (hu : Runs w u x) (hv : Runs w v y) => table_any u v x y w hu hv lx ly
  obtain ⟨n, hn⟩ : ∃ n, x.length = n := ⟨_, rfl⟩
  obtain ⟨m, hm⟩ : ∃ m, y.length = m := ⟨_, rfl⟩
  simp only [hn, hm] at c tb
  rw [hn] at lx
  rw [hm] at ly
  have HN := Lib.hid hn; clear hn
  have HM := Lib.hid hm; clear hm
  have TB := Lib.hid tb; clear tb
  go_enter Tryz.func37, Tryz.ntmps37
  go_wp2_with fail
  refine c.mono ?_
  rintro e w1 ⟨A, cc, B, d, rfl, R1, R2, B1⟩
  clear c
  have t1 := TB.out w1 _ _ R1.out R2.out
  go_wp2_with fail
  refine t1.mono ?_
  rintro e w2 ⟨G, gs, rfl, T, b2⟩
  have B2 := Lib.hid (B1.out.trans (b2.mono B1.out.size))
  have R1' := Lib.hid (R1.out.below b2)
  have R2' := Lib.hid (R2.out.below b2)
  have HT := Lib.hid T
  clear t1 T b2 R1 R2 TB B1
  go_wp2
  obtain ⟨P0, hP0⟩ : ∃ P0, P0 = pathR x.reverse y.reverse := ⟨_, rfl⟩
  have HP0 : Hid (P0 = pathR (x.take n).reverse (y.take m).reverse) := Lib.hid (by rw [hP0, List.take_of_length_le (by rw [HN.out]; exact Nat.le_refl _), List.take_of_length_le (by rw [HM.out]; exact Nat.le_refl _)])
  have HPx := Lib.hid hP0; clear hP0
  go_loopg [10, 11, 12] (n + m) (fun g s10 s11 s12 wr => ∃ (i j : Nat) (pre : List St), s11 = .int .i64 i ∧ s12 = .int .i64 j ∧ i ≤ n ∧ j ≤ m ∧ i + j ≤ g ∧ pre.length + i + j ≤ n + m ∧
    Hid (wr.ownsRow w2.heap.size 90 3 s10 pre.length (stCells pre)) ∧ Hid (Below w2.heap.size w2 wr) ∧ Hid (P0 = pre ++ pathR (x.take i).reverse (y.take j).reverse))
  case atStart => exact ⟨n, m, [], rfl, rfl, Nat.le_refl _, Nat.le_refl _, Nat.le_refl _, by simp, Lib.hid (World.ownsRow_nil _ _ _ _), Lib.hid (Below.refl _ _), HP0⟩
  case round =>
    clear HP0
    obtain ⟨i, j, pre, rfl, rfl, hi, hj, hg, hlen, HO, HB, HP⟩ := hrel
    rcases Nat.eq_zero_or_pos i with hi0 | hi0
    · rcases Nat.eq_zero_or_pos j with hj0 | hj0
      · subst hi0 hj0
        have HPe : Hid (P0 = pre) := Lib.hid (by have := HP.out; rw [List.take_zero, List.take_zero, List.reverse_nil, pathR, List.append_nil] at this; exact this)
        obtain ⟨Ab, cb, e0, hcb, ⟨hmb, _⟩, hcells⟩ := StRuns.of_own HO.out
        obtain ⟨N, hNl⟩ : ∃ N, pre.length = N := ⟨_, rfl⟩
        rw [hNl] at e0 hcb hcells hlen
        subst e0
        unfold maxLen at hmb
        have HNl := Lib.hid hNl; clear hNl
        have HCe := Lib.hid hcells; clear hcells
        go_wp2
        obtain ⟨W0, hW0⟩ : ∃ W0, W0 = wr := ⟨_, rfl⟩
        subst hW0
        go_loopg [13, 14] N (fun g s13 s14 wr => ∃ k : Nat, s14 = .int .i64 ((k : Int) - 1) ∧ k ≤ N ∧ k ≤ g ∧ Hid (wr.ownsRow W0.heap.size 90 3 s13 (pre.drop k).reverse.length (stCells (pre.drop k).reverse)) ∧ Hid (Below W0.heap.size W0 wr))
        case atStart => exact ⟨N, rfl, Nat.le_refl _, Nat.le_refl _, Lib.hid (by rw [List.drop_of_length_le (by rw [HNl.out]; exact Nat.le_refl _)]; exact World.ownsRow_nil _ _ _ _), Lib.hid (Below.refl _ _)⟩
        case round =>
          obtain ⟨k, rfl, hk, hg4, HOq, HBq⟩ := hrel
          cases k with
          | zero =>
            have hst := StRuns.of_own HOq.out
            rw [List.drop_zero] at hst
            have HST := Lib.hid hst; clear hst
            go_wp2
            go_ret2
            exact ⟨_, rfl, by rw [HRes.out, ← HPx.out, HPe.out]; exact HST.out, B2.out.trans ((HB.out.mono B2.out.size).trans (HBq.out.mono (Nat.le_trans B2.out.size HB.out.size)))⟩
          | succ q =>
            obtain ⟨bb, ob, rfl, hbb, hcell⟩ := HCe.out (by omega)
            obtain ⟨e1, e2, e3⟩ := hcell q (by omega)
            clear hcell
            obtain ⟨⟨kd, ra, rb⟩, hp⟩ : ∃ p, pre.getD q (0, 0, 0) = p := ⟨_, rfl⟩
            rw [hp] at e1 e2 e3
            simp only at e1 e2 e3
            have f1 : wr.cell? ⟨bb, ob + q * 3, none⟩ = some (.int .i64 kd) := (HBq.out.cell (show bb < W0.heap.size from hbb)).trans e1
            have f2 : wr.cell? ⟨bb, ob + q * 3 + 1, none⟩ = some (.int .i32 ra) := (HBq.out.cell (show bb < W0.heap.size from hbb)).trans e2
            have f3 : wr.cell? ⟨bb, ob + q * 3 + 2, none⟩ = some (.int .i32 rb) := (HBq.out.cell (show bb < W0.heap.size from hbb)).trans e3
            clear e1 e2 e3
            have HDr : Hid ((pre.drop (q + 1)).reverse ++ [(kd, ra, rb)] = (pre.drop q).reverse) := Lib.hid (by
              rw [List.drop_eq_getElem_cons (i := q) (by rw [HNl.out]; omega), List.reverse_cons]
              rw [List.getD_eq_getElem?_getD, List.getElem?_eq_getElem (by rw [HNl.out]; omega)] at hp
              rw [← hp]; rfl)
            clear hp
            have s5 : (((q + 1 : Nat) : Int) - 1) = (q : Int) := by omega
            rw [s5]
            clear s5
            have qN : (q : Int) < (N : Int) := by omega
            obtain ⟨v5, w5, hrun, hown, hb5⟩ := append_step wr W0.heap.size u13 _ HOq.out (kd, ra, rb) HBq.out.size (by rw [List.length_reverse, List.length_drop, HNl.out]; omega)
            rw [HDr.out] at hown
            have HR := Lib.hid hrun; clear hrun
            have HOw := Lib.hid hown; clear hown
            have HB5 : Hid (Below W0.heap.size W0 w5) := Lib.hid (HBq.out.trans hb5); clear hb5
            go_wp2_with (at_builtin; refine wpList_append_run (.tmp 204) (.tmp 209) 65 _ _ _ _ HR.out rfl rfl rfl rfl ?_)
            go_roundg q
            case measure => omega
            case rel => exact ⟨q, by go_num, by omega, Nat.le_refl _, HOw, HB5⟩
      · obtain ⟨j', hj'⟩ : ∃ j' : Nat, (j : Int) - 1 = (j' : Int) := ⟨j - 1, by omega⟩
        have HEj : Hid (j = j' + 1) := Lib.hid (by omega)
        have hj2 : j' < m := by omega
        have jI : (0 : Int) < (j : Int) := by omega
        have iI : decide ((0 : Int) < (i : Int)) = false := decide_eq_false (by omega)
        have iI' : ¬ (0 : Int) < (i : Int) := by omega
        obtain ⟨bY, oy, e1, hby, hcy⟩ : ∃ b o, B = some ⟨b, o, none⟩ ∧ b < w2.heap.size ∧ ∀ k, k < m → w2.cell? ⟨b, o + k, none⟩ = some (.int .i32 (y.getD k 0)) := by
          obtain ⟨A', c', e, _, _, hx⟩ := R2'.out
          rw [HM.out] at e hx
          obtain ⟨rfl, _, rfl⟩ := Value.slice.inj e
          exact hx (by omega)
        subst e1
        have c2 : wr.cell? ⟨bY, oy + j', none⟩ = some (.int .i32 (y.getD j' 0)) := (HB.out.cell (show bY < w2.heap.size from hby)).trans (hcy j' hj2)
        clear hcy
        have EY : Hid ((y.take j).reverse = y.getD j' 0 :: (y.take j').reverse) := Lib.hid (by rw [HEj.out]; exact rev_take y j' (by rw [HM.out]; exact hj2))
        obtain ⟨r, hr⟩ : ∃ r, y.getD j' 0 = r := ⟨_, rfl⟩
        rw [hr] at c2 EY
        clear hr
        have jM : (j' : Int) < (m : Int) := by omega
        have HPn : Hid (P0 = (pre ++ [(3, 0, r)]) ++ pathR (x.take i).reverse (y.take j').reverse) := Lib.hid (by
          rw [HP.out, EY.out, hi0, List.take_zero, List.reverse_nil, pathR]; simp)
        have HI0 := Lib.hid hi0; clear hi0
        go_wp2
        go_quiet (fail)
        revert nq; intro a1
        go_wp2
        go_quiet (fail)
        revert nq; intro a2
        go_wp2
        go_quiet (fail)
        revert nq; intro a3
        obtain ⟨w3, hw3⟩ : ∃ w3, w3 = (((wr.drewN a1).drewN a2).drewN a3) := ⟨_, rfl⟩
        have g1 : w3.cell? ⟨bY, oy + j', none⟩ = some (.int .i32 r) := by rw [hw3]; exact c2
        have HB3 : Hid (Below w2.heap.size w2 w3) := Lib.hid (by rw [hw3]; exact (below_draws (below_draws (below_draws HB.out _) _) _))
        have HO3 : Hid (w3.ownsRow w2.heap.size 90 3 u10 pre.length (stCells pre)) := Lib.hid (by rw [hw3]; exact HO.out)
        rw [← hw3]
        clear hw3 HB HO
        obtain ⟨v5, w5, hrun, hown, hb5⟩ := append_step w3 w2.heap.size u10 pre HO3.out (3, 0, r) HB3.out.size (by omega)
        have HR := Lib.hid hrun; clear hrun
        have HOw := Lib.hid hown; clear hown
        have HB5 : Hid (Below w2.heap.size w2 w5) := Lib.hid (HB3.out.trans hb5); clear hb5 HB3 HO3
        go_wp2_with (at_builtin; refine wpList_append_run (.tmp 38) (.tmp 45) 65 _ _ _ _ HR.out rfl rfl rfl rfl ?_)
        go_roundg (i + j')
        case measure => have := HEj.out; omega
        case rel => exact ⟨0, j', pre ++ [(3, 0, r)], rfl, rfl, by omega, by omega, by omega, by have := HEj.out; simp; omega, HOw, HB5, Lib.hid (by have := HPn.out; rw [HI0.out] at this; exact this)⟩
    · rcases Nat.eq_zero_or_pos j with hj0 | hj0
      · subst hj0
        obtain ⟨i', hi'⟩ : ∃ i' : Nat, (i : Int) - 1 = (i' : Int) := ⟨i - 1, by omega⟩
        have HEi : Hid (i = i' + 1) := Lib.hid (by omega)
        have hi2 : i' < n := by omega
        have iI : (0 : Int) < (i : Int) := by omega
        obtain ⟨bx, ox, e0, hbx, hcx⟩ : ∃ b o, A = some ⟨b, o, none⟩ ∧ b < w2.heap.size ∧ ∀ k, k < n → w2.cell? ⟨b, o + k, none⟩ = some (.int .i32 (x.getD k 0)) := by
          obtain ⟨A', c', e, _, _, hx⟩ := R1'.out
          rw [HN.out] at e hx
          obtain ⟨rfl, _, rfl⟩ := Value.slice.inj e
          exact hx (by omega)
        subst e0
        have c1 : wr.cell? ⟨bx, ox + i', none⟩ = some (.int .i32 (x.getD i' 0)) := (HB.out.cell (show bx < w2.heap.size from hbx)).trans (hcx i' hi2)
        clear hcx
        obtain ⟨b1, d1, d2⟩ := HT.out.at i (by omega)
        obtain ⟨b0, d3, d4⟩ := HT.out.at i' (by omega)
        have lt : ∀ {a : Addr} {v : Value}, w2.cell? a = some v → a.block < w2.heap.size := fun {a v} hc => by
          rcases Nat.lt_or_ge a.block w2.heap.size with h' | h'
          · exact h'
          · simp [World.cell?, Array.getElem?_eq_none h'] at hc
        have f1 : wr.cell? ⟨G, i, none⟩ = some (.slice (some ⟨b1, 0, none⟩) (m + 1) (m + 1)) := (HB.out.cell (lt d1)).trans d1
        have f2 : wr.cell? ⟨b1, 0, none⟩ = some (.int .i64 (tab x y i 0 : Nat)) := (HB.out.cell (lt (d2 0 (by omega)))).trans (d2 0 (by omega))
        have f3 : wr.cell? ⟨G, i', none⟩ = some (.slice (some ⟨b0, 0, none⟩) (m + 1) (m + 1)) := (HB.out.cell (lt d3)).trans d3
        have f5 : wr.cell? ⟨b0, 0, none⟩ = some (.int .i64 (tab x y i' 0 : Nat)) := (HB.out.cell (lt (d4 0 (by omega)))).trans (d4 0 (by omega))
        clear d1 d2 d3 d4 lt
        rw [tab_zero' x y i (by rw [HN.out]; omega)] at f2
        rw [tab_zero' x y i' (by rw [HN.out]; omega)] at f5
        have EX : Hid ((x.take i).reverse = x.getD i' 0 :: (x.take i').reverse) := Lib.hid (by rw [HEi.out]; exact rev_take x i' (by rw [HN.out]; exact hi2))
        obtain ⟨p, hp⟩ : ∃ p, x.getD i' 0 = p := ⟨_, rfl⟩
        rw [hp] at c1 EX
        clear hp
        have iN : (i' : Int) < (n : Int) := by omega
        have iL : (i : Int) < ((n : Int) + 1) := by omega
        have jL : (0 : Int) < ((m : Int) + 1) := by omega
        have iL' : (i' : Int) < ((n : Int) + 1) := by omega
        have iE : (i' : Int) + 1 = (i : Int) := by omega
        have HPn : Hid (P0 = (pre ++ [(2, p, 0)]) ++ pathR (x.take i').reverse (y.take 0).reverse) := Lib.hid (by
          rw [HP.out, EX.out, List.take_zero, List.reverse_nil, pathR]; simp)
        go_wp2
        go_quiet (fail)
        revert nq; intro a1
        go_wp2
        go_quiet (fail)
        revert nq; intro a2
        go_wp2
        go_quiet (fail)
        revert nq; intro a3
        obtain ⟨w3, hw3⟩ : ∃ w3, w3 = (((wr.drewN a1).drewN a2).drewN a3) := ⟨_, rfl⟩
        have g1 : w3.cell? ⟨bx, ox + i', none⟩ = some (.int .i32 p) := by rw [hw3]; exact c1
        have HB3 : Hid (Below w2.heap.size w2 w3) := Lib.hid (by rw [hw3]; exact (below_draws (below_draws (below_draws HB.out _) _) _))
        have HO3 : Hid (w3.ownsRow w2.heap.size 90 3 u10 pre.length (stCells pre)) := Lib.hid (by rw [hw3]; exact HO.out)
        rw [← hw3]
        clear hw3 HB HO
        obtain ⟨v5, w5, hrun, hown, hb5⟩ := append_step w3 w2.heap.size u10 pre HO3.out (2, p, 0) HB3.out.size (by omega)
        have HR := Lib.hid hrun; clear hrun
        have HOw := Lib.hid hown; clear hown
        have HB5 : Hid (Below w2.heap.size w2 w5) := Lib.hid (HB3.out.trans hb5); clear hb5 HB3 HO3
        go_wp2_with (at_builtin; refine wpList_append_run (.tmp 186) (.tmp 193) 65 _ _ _ _ HR.out rfl rfl rfl rfl ?_)
        go_roundg i'
        case measure => have := HEi.out; omega
        case rel => exact ⟨i', 0, pre ++ [(2, p, 0)], rfl, rfl, by omega, by omega, by omega, by have := HEi.out; simp; omega, HOw, HB5, HPn⟩
      · obtain ⟨i', hi'⟩ : ∃ i' : Nat, (i : Int) - 1 = (i' : Int) := ⟨i - 1, by omega⟩
        obtain ⟨j', hj'⟩ : ∃ j' : Nat, (j : Int) - 1 = (j' : Int) := ⟨j - 1, by omega⟩
        have HEi : Hid (i = i' + 1) := Lib.hid (by omega)
        have HEj : Hid (j = j' + 1) := Lib.hid (by omega)
        have hi2 : i' < n := by omega
        have hj2 : j' < m := by omega
        have iI : (0 : Int) < (i : Int) := by omega
        have jI : (0 : Int) < (j : Int) := by omega
        obtain ⟨bx, ox, e0, hbx, hcx⟩ : ∃ b o, A = some ⟨b, o, none⟩ ∧ b < w2.heap.size ∧ ∀ k, k < n → w2.cell? ⟨b, o + k, none⟩ = some (.int .i32 (x.getD k 0)) := by
          obtain ⟨A', c', e, _, _, hx⟩ := R1'.out
          rw [HN.out] at e hx
          obtain ⟨rfl, _, rfl⟩ := Value.slice.inj e
          exact hx (by omega)
        obtain ⟨bY, oy, e1, hby, hcy⟩ : ∃ b o, B = some ⟨b, o, none⟩ ∧ b < w2.heap.size ∧ ∀ k, k < m → w2.cell? ⟨b, o + k, none⟩ = some (.int .i32 (y.getD k 0)) := by
          obtain ⟨A', c', e, _, _, hx⟩ := R2'.out
          rw [HM.out] at e hx
          obtain ⟨rfl, _, rfl⟩ := Value.slice.inj e
          exact hx (by omega)
        subst e0 e1
        have c1 : wr.cell? ⟨bx, ox + i', none⟩ = some (.int .i32 (x.getD i' 0)) := (HB.out.cell (show bx < w2.heap.size from hbx)).trans (hcx i' hi2)
        have c2 : wr.cell? ⟨bY, oy + j', none⟩ = some (.int .i32 (y.getD j' 0)) := (HB.out.cell (show bY < w2.heap.size from hby)).trans (hcy j' hj2)
        clear hcx hcy
        obtain ⟨b1, d1, d2⟩ := HT.out.at i (by omega)
        obtain ⟨b0, d3, d4⟩ := HT.out.at i' (by omega)
        have lt : ∀ {a : Addr} {v : Value}, w2.cell? a = some v → a.block < w2.heap.size := fun {a v} hc => by
          rcases Nat.lt_or_ge a.block w2.heap.size with h' | h'
          · exact h'
          · simp [World.cell?, Array.getElem?_eq_none h'] at hc
        have f1 : wr.cell? ⟨G, i, none⟩ = some (.slice (some ⟨b1, 0, none⟩) (m + 1) (m + 1)) := (HB.out.cell (lt d1)).trans d1
        have f2 : wr.cell? ⟨b1, j, none⟩ = some (.int .i64 (tab x y i j : Nat)) := (HB.out.cell (lt (d2 j (by omega)))).trans (d2 j (by omega))
        have f3 : wr.cell? ⟨G, i', none⟩ = some (.slice (some ⟨b0, 0, none⟩) (m + 1) (m + 1)) := (HB.out.cell (lt d3)).trans d3
        have f4 : wr.cell? ⟨b0, j', none⟩ = some (.int .i64 (tab x y i' j' : Nat)) := (HB.out.cell (lt (d4 j' (by omega)))).trans (d4 j' (by omega))
        have f5 : wr.cell? ⟨b0, j, none⟩ = some (.int .i64 (tab x y i' j : Nat)) := (HB.out.cell (lt (d4 j (by omega)))).trans (d4 j (by omega))
        clear d1 d2 d3 d4 lt
        have ex : (x.take i).reverse = x.getD i' 0 :: (x.take i').reverse := by rw [HEi.out]; exact rev_take x i' (by rw [HN.out]; exact hi2)
        have ey : (y.take j).reverse = y.getD j' 0 :: (y.take j').reverse := by rw [HEj.out]; exact rev_take y j' (by rw [HM.out]; exact hj2)
        have EX := Lib.hid ex; clear ex
        have EY := Lib.hid ey; clear ey
        obtain ⟨p, hp⟩ : ∃ p, x.getD i' 0 = p := ⟨_, rfl⟩
        obtain ⟨r, hr⟩ : ∃ r, y.getD j' 0 = r := ⟨_, rfl⟩
        obtain ⟨T, hT⟩ : ∃ T, tab x y i j = T := ⟨_, rfl⟩
        obtain ⟨T1, hT1⟩ : ∃ T, tab x y i' j' = T := ⟨_, rfl⟩
        obtain ⟨T2, hT2⟩ : ∃ T, tab x y i' j = T := ⟨_, rfl⟩
        have tb1 := tab_le x y i' j'
        have tb2 := tab_le x y i' j
        rw [HN.out, HM.out] at tb1 tb2
        rw [hp] at c1 EX
        rw [hr] at c2 EY
        rw [hT] at f2
        rw [hT1] at f4 tb1
        rw [hT2] at f5 tb2
        have HTT := Lib.hid hT; clear hT
        have HT1 := Lib.hid hT1; clear hT1
        have HT2 := Lib.hid hT2; clear hT2
        clear hp hr
        have iL : (i : Int) < ((n : Int) + 1) := by omega
        have jL : (j : Int) < ((m : Int) + 1) := by omega
        have iL' : (i' : Int) < ((n : Int) + 1) := by omega
        have jL' : (j' : Int) < ((m : Int) + 1) := by omega
        have iN : (i' : Int) < (n : Int) := by omega
        have jM : (j' : Int) < (m : Int) := by omega
        by_cases hpr : p = r
        · subst hpr
          have hTe : T1 = T := by
            rw [← HTT.out, ← HT1.out]
            unfold tab
            rw [EX.out, EY.out, levR_same]
          subst hTe
          have wrp : ∀ z : Int, 0 ≤ z → z ≤ 9000000000000000000 → IntKind.i64.wrap z = z := fun z h1 h2 => by rw [IntKind.wrap_i64]; omega
          have q1 : IntKind.i64.wrap (i' : Int) = (i' : Int) := wrp _ (by omega) (by omega)
          have q2 : IntKind.i64.wrap (j' : Int) = (j' : Int) := wrp _ (by omega) (by omega)
          go_wp2
          go_quiet (fail)
          go_wp2
          obtain ⟨w3, hw3⟩ : ∃ w3, w3 = wr.drewN nq := ⟨_, rfl⟩
          have g1 : w3.cell? ⟨bx, ox + i', none⟩ = some (.int .i32 p) := by rw [hw3]; exact c1
          have g2 : w3.cell? ⟨bY, oy + j', none⟩ = some (.int .i32 p) := by rw [hw3]; exact c2
          have HB3 : Hid (Below w2.heap.size w2 w3.drew) := Lib.hid (by rw [hw3]; exact (below_draws HB.out _).drew)
          have HO3 : Hid (w3.drew.ownsRow w2.heap.size 90 3 u10 pre.length (stCells pre)) := Lib.hid (by rw [hw3]; exact HO.out)
          rw [← hw3]
          clear hw3 c1 c2 f1 f2 f3 f4 f5 HB HO
          obtain ⟨v5, w5, hrun, hown, hb5⟩ := append_step w3.drew w2.heap.size u10 pre HO3.out (0, p, p) HB3.out.size (by omega)
          have hrun' : (Builtin.append_ #[65, 65] 65 #[u10, .slice (some ⟨w3.heap.size, 0, none⟩) 1 1]).run Tryz.prog ((w3.alloc (.cells #[.int .i64 0, .int .i32 p, .int .i32 p] 90)).drew) = .ok v5 w5 := hrun
          have HR := Lib.hid hrun'; clear hrun hrun'
          have HOw := Lib.hid hown; clear hown
          have HB5 := Lib.hid (HB3.out.trans hb5); clear hb5 HB3 HO3
          have hmix : Tryz.prog.follows .mixedOrders = true := by kernel_rfl
          go_region_law ((refine step_append_run ?_ (.tmp 88) (.tmp 100) 65 _ _ _ _ ?_ HR.out ?_ ?_ ?_; rfl; rfl; go_simp; go_simp))
          all_goals
            go_wp2
            go_roundg (i' + j')
            case measure => have := HEi.out; have := HEj.out; omega
            case rel => exact ⟨i', j', pre ++ [(0, p, p)], rfl, rfl, by omega, by omega, Nat.le_refl _, by have := HEi.out; have := HEj.out; simp; omega, HOw, HB5, Lib.hid (by rw [HP.out, EX.out, EY.out, pathR_same]; simp)⟩
        · have b1' : (p == r) = false := beq_eq_false_iff_ne.2 hpr
          have b2' : (p != r) = true := bne_iff_ne.2 hpr
          have wrp : ∀ z : Int, 0 ≤ z → z ≤ 9000000000000000000 → IntKind.i64.wrap z = z := fun z h1 h2 => by rw [IntKind.wrap_i64]; omega
          have q1 : IntKind.i64.wrap (i' : Int) = (i' : Int) := wrp _ (by omega) (by omega)
          have q2 : IntKind.i64.wrap (j' : Int) = (j' : Int) := wrp _ (by omega) (by omega)
          obtain ⟨U1, hU1⟩ : ∃ U : Nat, (T1 : Int) + 1 = (U : Int) := ⟨T1 + 1, rfl⟩
          obtain ⟨U2, hU2⟩ : ∃ U : Nat, (T2 : Int) + 1 = (U : Int) := ⟨T2 + 1, rfl⟩
          have lT : levR ((x.take i).reverse) ((y.take j).reverse) = T := HTT.out
          have lT1 : levR ((x.take i').reverse) ((y.take j').reverse) = T1 := HT1.out
          have lT2 : levR ((x.take i').reverse) ((y.take j).reverse) = T2 := HT2.out
          rw [EX.out, EY.out] at lT
          rw [EY.out] at lT2
          have LT := Lib.hid lT; clear lT
          have LT1 := Lib.hid lT1; clear lT1
          have LT2 := Lib.hid lT2; clear lT2
          by_cases hsub : T = U1
          · have HPn : Hid (P0 = (pre ++ [(1, p, r)]) ++ pathR (x.take i').reverse (y.take j').reverse) := Lib.hid (by
              rw [HP.out, EX.out, EY.out, pathR_sub hpr (by rw [LT.out, LT1.out]; omega)]; simp)
            subst hsub
            go_wp2
            go_quiet (fail)
            revert nq; intro a1
            go_wp2
            go_quiet (fail)
            go_wp2
            obtain ⟨w3, hw3⟩ : ∃ w3, w3 = (wr.drewN a1).drewN nq := ⟨_, rfl⟩
            have g1 : w3.cell? ⟨bx, ox + i', none⟩ = some (.int .i32 p) := by rw [hw3]; exact c1
            have g2 : w3.cell? ⟨bY, oy + j', none⟩ = some (.int .i32 r) := by rw [hw3]; exact c2
            have HB3 : Hid (Below w2.heap.size w2 w3.drew) := Lib.hid (by rw [hw3]; exact (below_draws (below_draws HB.out _) _).drew)
            have HO3 : Hid (w3.drew.ownsRow w2.heap.size 90 3 u10 pre.length (stCells pre)) := Lib.hid (by rw [hw3]; exact HO.out)
            rw [← hw3]
            clear hw3 c1 c2 f1 f2 f3 f4 f5 HB HO
            obtain ⟨v5, w5, hrun, hown, hb5⟩ := append_step w3.drew w2.heap.size u10 pre HO3.out (1, p, r) HB3.out.size (by omega)
            have hrun' : (Builtin.append_ #[65, 65] 65 #[u10, .slice (some ⟨w3.heap.size, 0, none⟩) 1 1]).run Tryz.prog ((w3.alloc (.cells #[.int .i64 1, .int .i32 p, .int .i32 r] 90)).drew) = .ok v5 w5 := hrun
            have HR := Lib.hid hrun'; clear hrun hrun'
            have HOw := Lib.hid hown; clear hown
            have HB5 := Lib.hid (HB3.out.trans hb5); clear hb5 HB3 HO3
            have hmix : Tryz.prog.follows .mixedOrders = true := by kernel_rfl
            go_region_law ((refine step_append_run ?_ (.tmp 146) (.tmp 158) 65 _ _ _ _ ?_ HR.out ?_ ?_ ?_; rfl; rfl; go_simp; go_simp))
            all_goals
              go_wp2
              go_roundg (i' + j')
              case measure => have := HEi.out; have := HEj.out; omega
              case rel => exact ⟨i', j', pre ++ [(1, p, r)], rfl, rfl, by omega, by omega, Nat.le_refl _, by have := HEi.out; have := HEj.out; simp; omega, HOw, HB5, HPn⟩
          · have hns : ¬ (T : Int) = (U1 : Int) := by omega
            by_cases hdel : T = U2
            · have HPn : Hid (P0 = (pre ++ [(2, p, 0)]) ++ pathR (x.take i').reverse (y.take j).reverse) := Lib.hid (by
                rw [HP.out, EX.out, EY.out, pathR_del hpr (by rw [LT.out, LT1.out]; omega) (by rw [LT.out, LT2.out]; omega)]; simp)
              subst hdel
              go_wp2
              go_quiet (fail)
              revert nq; intro a1
              go_wp2
              go_quiet (fail)
              revert nq; intro a2
              go_wp2
              go_quiet (fail)
              revert nq; intro a3
              obtain ⟨w3, hw3⟩ : ∃ w3, w3 = (((wr.drewN a1).drewN a2).drewN a3) := ⟨_, rfl⟩
              have g1 : w3.cell? ⟨bx, ox + i', none⟩ = some (.int .i32 p) := by rw [hw3]; exact c1
              have HB3 : Hid (Below w2.heap.size w2 w3) := Lib.hid (by rw [hw3]; exact (below_draws (below_draws (below_draws HB.out _) _) _))
              have HO3 : Hid (w3.ownsRow w2.heap.size 90 3 u10 pre.length (stCells pre)) := Lib.hid (by rw [hw3]; exact HO.out)
              rw [← hw3]
              clear hw3 HB HO
              obtain ⟨v5, w5, hrun, hown, hb5⟩ := append_step w3 w2.heap.size u10 pre HO3.out (2, p, 0) HB3.out.size (by omega)
              have HR := Lib.hid hrun; clear hrun
              have HOw := Lib.hid hown; clear hown
              have HB5 : Hid (Below w2.heap.size w2 w5) := Lib.hid (HB3.out.trans hb5); clear hb5 HB3 HO3
              go_wp2_with (at_builtin; refine wpList_append_run (.tmp 186) (.tmp 193) 65 _ _ _ _ HR.out rfl rfl rfl rfl ?_)
              go_roundg (i' + j)
              case measure => have := HEi.out; omega
              case rel => exact ⟨i', j, pre ++ [(2, p, 0)], rfl, rfl, by omega, by omega, Nat.le_refl _, by have := HEi.out; simp; omega, HOw, HB5, HPn⟩
            · have hnd : ¬ (T : Int) = (U2 : Int) := by omega
              have HPn : Hid (P0 = (pre ++ [(3, 0, r)]) ++ pathR (x.take i).reverse (y.take j').reverse) := Lib.hid (by
                rw [HP.out, EX.out, EY.out, pathR_ins hpr (by rw [LT.out, LT1.out]; omega) (by rw [LT.out, LT2.out]; omega)]; simp)
              go_wp2
              go_quiet (fail)
              revert nq; intro a1
              go_wp2
              go_quiet (fail)
              revert nq; intro a2
              go_wp2
              go_quiet (fail)
              revert nq; intro a3
              obtain ⟨w3, hw3⟩ : ∃ w3, w3 = (((wr.drewN a1).drewN a2).drewN a3) := ⟨_, rfl⟩
              have g1 : w3.cell? ⟨bY, oy + j', none⟩ = some (.int .i32 r) := by rw [hw3]; exact c2
              have HB3 : Hid (Below w2.heap.size w2 w3) := Lib.hid (by rw [hw3]; exact (below_draws (below_draws (below_draws HB.out _) _) _))
              have HO3 : Hid (w3.ownsRow w2.heap.size 90 3 u10 pre.length (stCells pre)) := Lib.hid (by rw [hw3]; exact HO.out)
              rw [← hw3]
              clear hw3 HB HO
              obtain ⟨v5, w5, hrun, hown, hb5⟩ := append_step w3 w2.heap.size u10 pre HO3.out (3, 0, r) HB3.out.size (by omega)
              have HR := Lib.hid hrun; clear hrun
              have HOw := Lib.hid hown; clear hown
              have HB5 : Hid (Below w2.heap.size w2 w5) := Lib.hid (HB3.out.trans hb5); clear hb5 HB3 HO3
              go_wp2_with (at_builtin; refine wpList_append_run (.tmp 38) (.tmp 45) 65 _ _ _ _ HR.out rfl rfl rfl rfl ?_)
              go_roundg (i + j')
              case measure => have := HEj.out; omega
              case rel => exact ⟨i, j', pre ++ [(3, 0, r)], rfl, rfl, by omega, by omega, Nat.le_refl _, by have := HEj.out; simp; omega, HOw, HB5, HPn⟩
end Go.Proofs.YtnognphjndpgkaaGreatDoor

/- The steps of two tokens, or the error, as errataref04.Steps tells them. -/
namespace Go.Proofs.YtnognphjndpgkaaGreatDoor
open Go.RowKit Go.Shelf

/-- The steps of two tokens, in order, or none. -/
def stepsS (s t : List UInt8) : List St := if tokErr2 s t = 0 then (pathR (tokRunes s).reverse (tokRunes t).reverse).reverse else []

set_option maxRecDepth 100000 in
set_option maxHeartbeats 4000000 in
theorem refSteps_any (s t : ByteArray) (w : World) (hs : s.size * 4 ≤ 140737488355328) (ht : t.size * 4 ≤ 140737488355328) :
    Calls Tryz.prog 37 #[.string s, .string t] w fun e w' => ∃ v, e = .returned (.tuple #[v, .int .i64 (tokErr2 s.data.toList t.data.toList)]) ∧ StRuns w' v (stepsS s.data.toList t.data.toList) ∧ Below w.heap.size w w' := by
  by_cases h1 : tokErr s.data.toList = 0
  · have e2 : tokErr2 s.data.toList t.data.toList = tokErr t.data.toList := if_pos h1
    by_cases h2 : tokErr t.data.toList = 0
    · have e3 : stepsS s.data.toList t.data.toList = (pathR (tokRunes s.data.toList).reverse (tokRunes t.data.toList).reverse).reverse := by rw [stepsS, if_pos (by rw [e2, h2])]
      rw [e2, h2, e3]
      exact refSteps_ok s t w hs ht h1 h2
    · have c := refTokens_ok s t w hs ht h1
      have e3 : stepsS s.data.toList t.data.toList = [] := by rw [stepsS, if_neg (by rw [e2]; exact h2)]
      rw [e2, e3]
      clear e2 e3 h1
      obtain ⟨er, he⟩ : ∃ er, tokErr t.data.toList = er := ⟨_, rfl⟩
      rw [he] at h2 ⊢
      simp only [he] at c
      clear he
      go_enter Tryz.func37, Tryz.ntmps37
      go_wp2_with fail
      refine c.mono ?_
      rintro e w1 ⟨A, cc, B, d, rfl, R1, R2, B1⟩
      clear c R1 R2
      go_wp2
      go_ret2
      exact ⟨_, rfl, StRuns.nil_ _, B1.out⟩
  · have c := refTokens_bad s t w hs h1
    have e2 : tokErr2 s.data.toList t.data.toList = tokErr s.data.toList := if_neg h1
    have e3 : stepsS s.data.toList t.data.toList = [] := by rw [stepsS, if_neg (by rw [e2]; exact h1)]
    rw [e2, e3]
    clear e2 e3
    obtain ⟨er, he⟩ : ∃ er, tokErr s.data.toList = er := ⟨_, rfl⟩
    rw [he] at h1 ⊢
    simp only [he] at c
    clear he
    go_enter Tryz.func37, Tryz.ntmps37
    go_wp2_with fail
    refine c.mono ?_
    rintro e w1 ⟨rfl, b1⟩
    have B1 := Lib.hid b1
    clear c b1
    go_wp2
    go_ret2
    exact ⟨_, rfl, StRuns.nil_ _, B1.out⟩
end Go.Proofs.YtnognphjndpgkaaGreatDoor

/- The same steps, as errataref04.Same tells it. -/
namespace Go.Proofs.YtnognphjndpgkaaGreatDoor
open Go.RowKit Go.Shelf

theorem getD_eq_of (x y : List St) (k : Nat) (h : x.getD k (0, 0, 0) ≠ y.getD k (0, 0, 0)) : x ≠ y := by
  rintro rfl; exact h rfl
theorem take_eq_all {α : Type} (x y : List α) (h : x.length = y.length) (ht : x.take x.length = y.take x.length) : x = y := by
  rw [List.take_length] at ht; rw [ht, List.take_of_length_le (by omega)]
theorem take_succ_eq {α : Type} (d : α) (x y : List α) (k : Nat) (hx : k < x.length) (hy : k < y.length) (h : x.take k = y.take k) (he : x.getD k d = y.getD k d) : x.take (k + 1) = y.take (k + 1) := by
  rw [List.take_succ_eq_append_getElem hx, List.take_succ_eq_append_getElem hy, h]
  simp [List.getD_eq_getElem?_getD, hx, hy] at he
  rw [he]

end Go.Proofs.YtnognphjndpgkaaGreatDoor

/- The law AlignSteps, walked over what align's functions answer. -/
namespace Go.Proofs.YtnognphjndpgkaaGreatDoor
open Go.RowKit Go.Shelf

/-- What align.Steps and align.Distance answer at two texts, in every world. -/
def StepsAt (s t : ByteArray) : Prop := ∀ w, Okw w → Calls Tryz.prog 32 #[.string s, .string t] w fun e w' => ∃ v, e = .returned (.tuple #[v, .int .i64 (tokErr2 s.data.toList t.data.toList)]) ∧ StRuns w' v (stepsS s.data.toList t.data.toList) ∧ Below w.heap.size w w'

end Go.Proofs.YtnognphjndpgkaaGreatDoor

/- align.Distance: how far two tokens are apart, or why one of them is none. -/
namespace Go.Proofs.YtnognphjndpgkaaGreatDoor
open Go.RowKit Go.Shelf

theorem TabR.at {w w' : World} {d : Value} {x y : List Int} (h : TabR w d x y) (hb : Below w.heap.size w w') : TabR w' d x y := by
  obtain ⟨G, dc, e, hx⟩ := h
  refine ⟨G, dc, e, fun i hi => ?_⟩
  obtain ⟨b, h1, h2⟩ := hx i hi
  exact ⟨b, (hb.cell (cell_lt h1)).trans h1, fun j hj => (hb.cell (cell_lt (h2 j hj))).trans (h2 j hj)⟩

end Go.Proofs.YtnognphjndpgkaaGreatDoor

