/- The table of two rows' beginnings, as errataref04.table makes it. -/
import Derived.Test.YthigbnklekdemaaDoorNRow
import Derived.Test.YthigbnklekdemaaDoorAPlain
import Derived.StillTailTactics
namespace Go.Proofs.YthigbnklekdemaaDoor
open Go.RowKit

/-- How far two beginnings are apart. -/
def tab (x y : List Int) (i j : Nat) : Nat := levR (x.take i).reverse (y.take j).reverse

theorem tab_zero (x y : List Int) (j : Nat) (hj : j ≤ y.length) : tab x y 0 j = j := by
  rw [tab, List.take_zero, List.reverse_nil, levR_nil, List.length_reverse, List.length_take]
  omega
theorem tab_zero' (x y : List Int) (i : Nat) (hi : i ≤ x.length) : tab x y i 0 = i := by
  rw [tab, List.take_zero, List.reverse_nil, levR_nil', List.length_reverse, List.length_take]
  omega
theorem rev_take (x : List Int) (i : Nat) (hi : i < x.length) : (x.take (i + 1)).reverse = x.getD i 0 :: (x.take i).reverse := by
  rw [List.take_add_one, List.reverse_append]
  simp [List.getElem?_eq_getElem hi, List.getD_eq_getElem?_getD]
theorem tab_step (x y : List Int) (i j : Nat) (hi : i < x.length) (hj : j < y.length) :
    tab x y (i + 1) (j + 1) = min (tab x y i j + if x.getD i 0 = y.getD j 0 then 0 else 1) (min (tab x y i (j + 1) + 1) (tab x y (i + 1) j + 1)) := by
  rw [tab, rev_take x i hi, rev_take y j hj, levR_cons, ← rev_take x i hi, ← rev_take y j hj]
  rfl
theorem tab_le (x y : List Int) (i j : Nat) : tab x y i j ≤ x.length + y.length := by
  have := levR_max (x.take i).reverse (y.take j).reverse
  rw [List.length_reverse, List.length_reverse, List.length_take, List.length_take] at this
  unfold tab
  omega

/-- Row i of the table. -/
def rowL (x y : List Int) (M i : Nat) : List Nat := (List.range M).map (tab x y i)
theorem rowL_length (x y : List Int) (M i : Nat) : (rowL x y M i).length = M := by simp [rowL]
theorem rowL_getD (x y : List Int) (M i j : Nat) (hj : j < M) : (rowL x y M i).getD j 0 = tab x y i j := by
  simp [rowL, List.getD_eq_getElem?_getD, hj]
/-- The first i rows of the table lie in block G. -/
def TblAt (w : World) (G : Nat) (x y : List Int) (M N i : Nat) (gs : List Nat) : Prop :=
  gs.length = i ∧ RowS w G M (gs.map some ++ List.replicate (N - i) none) ∧ ∀ k b, gs[k]? = some b → G < b ∧ RowN w b (rowL x y M k)

theorem set_mid (gs : List Nat) (N i g : Nat) (hl : gs.length = i) (hi : i < N) : (gs.map some ++ List.replicate (N - i) (none : Option Nat)).set i (some g) = (gs ++ [g]).map some ++ List.replicate (N - (i + 1)) none := by
  obtain ⟨r, hr⟩ : ∃ r, N - i = r + 1 := ⟨N - i - 1, by omega⟩
  have h2 : N - (i + 1) = r := by omega
  rw [hr, h2, List.replicate_succ, List.set_append, List.length_map, hl, if_neg (by omega), Nat.sub_self]
  simp

/-- Behind 'd[i] = make(..)'. -/
theorem TblAt.grow {w : World} {G : Nat} {x y : List Int} {M N i : Nat} {gs : List Nat} (h : TblAt w G x y M N i gs) (hi : i < N) (W : World)
    (hW : W = (w.alloc (.cells (cellsN (List.replicate M 0)) 3)).setCell ⟨G, i, none⟩ (.slice (some ⟨w.heap.size, 0, none⟩) M M)) :
    RowS W G M ((gs ++ [w.heap.size]).map some ++ List.replicate (N - (i + 1)) none) ∧ (∀ k b, gs[k]? = some b → G < b ∧ b < w.heap.size ∧ RowN W b (rowL x y M k)) ∧ RowN W w.heap.size (List.replicate M 0) ∧ G < w.heap.size ∧ w.heap.size < W.heap.size := by
  obtain ⟨h1, h2, h3⟩ := h
  have hG := h2.lt
  have ha : Below w.heap.size w (w.alloc (.cells (cellsN (List.replicate M 0)) 3)) := (Below.refl _ _).alloc (Nat.le_refl _) _
  have hs : ∀ b, b ≠ G → W.heap[b]? = (w.alloc (.cells (cellsN (List.replicate M 0)) 3)).heap[b]? := fun b hb => by
    rw [hW]; exact Below.heap_setCell _ _ _ b hb
  refine ⟨?_, fun k b hk => ?_, ?_, hG, by rw [hW]; simp [World.setCell]⟩
  · rw [← set_mid gs N i w.heap.size h1 hi, hW]
    exact (h2.below ha hG).set i w.heap.size
  · obtain ⟨hb, hr⟩ := h3 k b hk
    exact ⟨hb, hr.lt, (hs b (by omega)).trans (hr.below ha hr.lt)⟩
  · exact (hs _ (by omega)).trans (heap_alloc_new w _)

theorem TblAt.next {w : World} {G : Nat} {x y : List Int} {M N i g : Nat} {gs : List Nat} {o : List Nat} (hl : gs.length = i) (hS : RowS w G M ((gs ++ [g]).map some ++ List.replicate (N - (i + 1)) none)) (hR : ∀ k b, gs[k]? = some b → G < b ∧ RowN w b (rowL x y M k))
    (hg : G < g) (ho : RowN w g o) (hlo : o.length = M) (hv : ∀ k, k < M → o.getD k 0 = tab x y i k) : TblAt w G x y M N (i + 1) (gs ++ [g]) := by
  refine ⟨by simp [hl], hS, fun k b hk => ?_⟩
  rw [List.getElem?_append] at hk
  split at hk
  · exact hR k b hk
  · rename_i hk'
    have e : k - gs.length = 0 := by
      cases hq : k - gs.length with
      | zero => rfl
      | succ q => rw [hq] at hk; simp at hk
    rw [e] at hk
    have hb : g = b := by simpa using hk
    subst hb
    have hki : k = i := by omega
    subst hki
    have : o = rowL x y M k := by
      apply List.ext_getElem?
      intro q
      by_cases hq : q < M
      · have h1 := hv q hq
        have h2 := rowL_getD x y M k q hq
        rw [List.getD_eq_getElem?_getD, List.getElem?_eq_getElem (by omega)] at h1
        rw [List.getD_eq_getElem?_getD, List.getElem?_eq_getElem (by rw [rowL_length]; omega)] at h2
        rw [List.getElem?_eq_getElem (by omega), List.getElem?_eq_getElem (by rw [rowL_length]; omega)]
        simp only [Option.getD_some] at h1 h2
        rw [h1, h2]
      · rw [List.getElem?_eq_none (by omega), List.getElem?_eq_none (by rw [rowL_length]; omega)]
    rw [← this]
    exact ⟨hg, ho⟩

theorem getD_set (l : List Nat) (i j x : Nat) (hi : i < l.length) : (l.set i x).getD j 0 = if i = j then x else l.getD j 0 := by
  rw [List.getD_eq_getElem?_getD, List.getD_eq_getElem?_getD, List.getElem?_set]
  by_cases h : i = j
  · subst h; simp [hi]
  · simp [h]

set_option maxRecDepth 100000 in
set_option maxHeartbeats 4000000 in
theorem table_any (u v : Value) (x y : List Int) (w : World) (hx : Runs w u x) (hy : Runs w v y) (lx : x.length ≤ 64) (ly : y.length ≤ 64) :
    Calls Tryd.prog 27 #[u, v] w fun e w' => ∃ G gs, e = .returned (.slice (some ⟨G, 0, none⟩) (x.length + 1) (x.length + 1)) ∧ TblAt w' G x y (y.length + 1) (x.length + 1) (x.length + 1) gs ∧ Below w.heap.size w w' := by
  obtain ⟨A, c, rfl, hxc, ⟨hxm, _⟩, hxx⟩ := hx
  obtain ⟨B, d, rfl, hyc, ⟨hym, _⟩, hyy⟩ := hy
  unfold maxLen at hxm hym
  obtain ⟨n, hn⟩ : ∃ n, x.length = n := ⟨_, rfl⟩
  obtain ⟨m, hm⟩ : ∃ m, y.length = m := ⟨_, rfl⟩
  rw [hn] at hxc hxx lx ⊢
  rw [hm] at hyc hyy ly ⊢
  have HN := Lib.hid hn; clear hn
  have HM := Lib.hid hm; clear hm
  have HX := Lib.hid hxx; clear hxx
  have HY := Lib.hid hyy; clear hyy
  obtain ⟨N, hN⟩ : ∃ N : Nat, (n : Int) + 1 = (N : Int) := ⟨n + 1, rfl⟩
  obtain ⟨M, hM⟩ : ∃ M : Nat, (m : Int) + 1 = (M : Int) := ⟨m + 1, rfl⟩
  have hN2 : N = n + 1 := by omega
  have hM2 : M = m + 1 := by omega
  have HN2 := Lib.hid hN2; clear hN2
  have HM2 := Lib.hid hM2; clear hM2
  have hmk := make_rows w N M (by have := HN2.out; omega)
  go_enter Tryd.func27, Tryd.ntmps27
  go_wp2
  have T0 : Hid (TblAt (w.alloc (.cells (cellsS M (List.replicate N none)) 55)) w.heap.size x y M N 0 []) := Lib.hid ⟨rfl, heap_alloc_new w _, fun k b hk => by simp at hk⟩
  have B0 : Hid (Below w.heap.size w (w.alloc (.cells (cellsS M (List.replicate N none)) 55))) := Lib.hid ((Below.refl _ _).alloc (Nat.le_refl _) _)
  obtain ⟨G, hG⟩ : ∃ G, G = w.heap.size := ⟨_, rfl⟩
  rw [← hG] at T0 B0 ⊢
  have HG := Lib.hid hG; clear hG hmk
  go_loopg [15] N (fun g s15 wr => ∃ (i : Nat) (gs : List Nat), s15 = .int .i64 i ∧ i ≤ N ∧ N - i ≤ g ∧ Hid (TblAt wr G x y M N i gs) ∧ Hid (Below G w wr))
  case atStart => exact ⟨0, [], rfl, by omega, by omega, T0, B0⟩
  case round =>
    clear T0 B0
    obtain ⟨i, gs, rfl, hi, hg, HT, HB⟩ := hrel
    by_cases hin : i < N
    · have hin' : (i : Int) < (N : Int) := by omega
      obtain ⟨g, hgs⟩ : ∃ g, g = wr.heap.size := ⟨_, rfl⟩
      have hmk := make_ints wr M (by have := HM2.out; omega)
      rw [← hgs] at hmk
      have RSi : Hid (RowS (wr.alloc (.cells (cellsN (List.replicate M 0)) 3)) G M (gs.map some ++ List.replicate (N - i) none)) := Lib.hid (HT.out.2.1.below ((Below.refl _ _).alloc (Nat.le_refl _) _) HT.out.2.1.lt)
      have c0 : (wr.alloc (.cells (cellsN (List.replicate M 0)) 3)).cell? ⟨G, i, none⟩ = some (.slice none 0 0) := RSi.out.cell0 i (by rw [List.getElem?_append_right (by rw [List.length_map, HT.out.1]; exact Nat.le_refl _), List.length_map, HT.out.1, Nat.sub_self, List.getElem?_replicate, if_pos (by omega)])
      have z0 := RSi.out.frozen i
      obtain ⟨W, hW⟩ : ∃ W, W = (wr.alloc (.cells (cellsN (List.replicate M 0)) 3)).setCell ⟨G, i, none⟩ (.slice (some ⟨wr.heap.size, 0, none⟩) M M) := ⟨_, rfl⟩
      obtain ⟨k1, k2, k3, k4, k5⟩ := HT.out.grow hin W hW
      rw [← hgs] at hW k1 k2 k3 k4 k5
      have K1 := Lib.hid k1; clear k1
      have K2 := Lib.hid k2; clear k2
      have K3 := Lib.hid k3; clear k3
      have BW : Hid (Below G w W) := Lib.hid (by rw [hW]; exact (HB.out.alloc (by omega) _).setCell (Nat.le_refl _) _)
      have c1 : W.cell? ⟨G, i, none⟩ = some (.slice (some ⟨g, 0, none⟩) M M) := K1.out.cell i g (by rw [List.getElem?_append_left (by simp [HT.out.1]), List.getElem?_map, List.getElem?_append_right (by rw [HT.out.1]; exact Nat.le_refl _), HT.out.1, Nat.sub_self]; rfl)
      have HL : Hid (gs.length = i) := Lib.hid HT.out.1
      clear RSi HT HB
      go_wp2
      rw [← hgs, ← hW]
      clear hW c0 z0 hmk c1 hgs
      have k6 : G ≠ g := by omega
      go_loopg [30] M (fun q s30 wr => ∃ (j : Nat) (o : List Nat), s30 = .int .i64 j ∧ j ≤ M ∧ M - j ≤ q ∧ Hid (RowN wr g o) ∧ Hid (o.length = M) ∧ Hid (∀ k, k < j → o.getD k 0 = tab x y i k) ∧ Hid (Below g W wr))
      case atStart => exact ⟨0, _, rfl, by omega, by omega, K3, Lib.hid (by simp), Lib.hid (fun k hk => by omega), Lib.hid (Below.refl _ _)⟩
      case round =>
        clear K3
        obtain ⟨j, o, rfl, hj, hg2, R, HO, HV, HBg⟩ := hrel
        have RS : Hid (RowS wr G M ((gs ++ [g]).map some ++ List.replicate (N - (i + 1)) none)) := Lib.hid (K1.out.below HBg.out k4)
        by_cases hjm : j < M
        · have hjm' : (j : Int) < (M : Int) := by omega
          have c1 : wr.cell? ⟨G, i, none⟩ = some (.slice (some ⟨g, 0, none⟩) M M) := RS.out.cell i g (by rw [List.getElem?_append_left (by simp [HL.out]), List.getElem?_map, List.getElem?_append_right (by rw [HL.out]; exact Nat.le_refl _), HL.out, Nat.sub_self]; rfl)
          have c2 := R.out.cell j (by have := HO.out; omega)
          have c3 := R.out.frozen j
          obtain ⟨oj, hoj⟩ : ∃ oj, o.getD j 0 = oj := ⟨_, rfl⟩
          rw [hoj] at c2
          clear hoj
          by_cases hi0 : i = 0
          · have e1 : ((i : Int) == 0) = true := by rw [hi0]; rfl
            have e2 : decide ((i : Int) = 0) = true := by rw [hi0]; rfl
            have HI := Lib.hid hi0; clear hi0
            go_wp2
            go_roundg (M - (j + 1))
            case measure => omega
            case rel =>
              refine ⟨j + 1, o.set j j, rfl, by omega, by omega, Lib.hid (R.out.set j j), Lib.hid (by rw [List.length_set]; exact HO.out), Lib.hid (fun k hk => ?_), Lib.hid (HBg.out.setCell (Nat.le_refl _) _)⟩
              rw [getD_set _ _ _ _ (by have := HO.out; omega)]
              split
              · rename_i e; subst e; rw [HI.out, tab_zero x y j (by have := HM.out; have := HM2.out; omega)]
              · exact HV.out k (by omega)
          · have hi1 : ¬ (i : Int) = 0 := by omega
            by_cases hj0 : j = 0
            · have e1 : ((j : Int) == 0) = true := by rw [hj0]; rfl
              have e2 : decide ((j : Int) = 0) = true := by rw [hj0]; rfl
              have HJ := Lib.hid hj0; clear hj0
              go_wp2
              go_roundg (M - (j + 1))
              case measure => omega
              case rel =>
                refine ⟨j + 1, o.set j i, rfl, by omega, by omega, Lib.hid (R.out.set j i), Lib.hid (by rw [List.length_set]; exact HO.out), Lib.hid (fun k hk => ?_), Lib.hid (HBg.out.setCell (Nat.le_refl _) _)⟩
                rw [getD_set _ _ _ _ (by have := HO.out; omega)]
                split
                · rename_i e; subst e; rw [HJ.out, tab_zero' x y i (by have := HN.out; have := HN2.out; omega)]
                · exact HV.out k (by omega)
            · have hj1 : ¬ (j : Int) = 0 := by omega
              obtain ⟨i', hi'⟩ : ∃ i' : Nat, (i : Int) - 1 = (i' : Int) := ⟨i - 1, by omega⟩
              obtain ⟨j', hj'⟩ : ∃ j' : Nat, (j : Int) - 1 = (j' : Int) := ⟨j - 1, by omega⟩
              have ei : i = i' + 1 := by omega
              have ej : j = j' + 1 := by omega
              have HEi := Lib.hid ei; clear ei
              have HEj := Lib.hid ej; clear ej
              have hin2 : i' < n := by have := HEi.out; have := HN2.out; omega
              have hjm2 : j' < m := by have := HEj.out; have := HM2.out; omega
              obtain ⟨b, hb⟩ : ∃ b, gs[i']? = some b := ⟨_, List.getElem?_eq_getElem (by have := HL.out; have := HEi.out; omega)⟩
              obtain ⟨q1, q2, q3⟩ := K2.out i' b hb
              have q4 := q3.below HBg.out q2
              have c4 : wr.cell? ⟨G, i', none⟩ = some (.slice (some ⟨b, 0, none⟩) M M) := RS.out.cell i' b (by rw [List.getElem?_append_left (by have := HL.out; have := HEi.out; simp; omega), List.getElem?_map, List.getElem?_append_left (by have := HL.out; have := HEi.out; omega), hb]; rfl)
              have c5 := q4.cell j' (by rw [rowL_length]; have := HEj.out; omega)
              rw [rowL_getD x y M i' j' (by have := HEj.out; omega)] at c5
              have c6 := q4.cell j (by rw [rowL_length]; exact hjm)
              rw [rowL_getD x y M i' j hjm] at c6
              have c7 := R.out.cell j' (by have := HO.out; have := HEj.out; omega)
              rw [HV.out j' (by have := HEj.out; omega)] at c7
              obtain ⟨bx, ox, rfl, hbx, hcx⟩ := HX.out (by omega)
              obtain ⟨by1, oy, rfl, hby, hcy⟩ := HY.out (by omega)
              have BL : Hid (Below G w wr) := Lib.hid (BW.out.trans (HBg.out.mono (Nat.le_of_lt k4)))
              have c8 : wr.cell? ⟨bx, ox + i', none⟩ = some (.int .i32 (x.getD i' 0)) := (BL.out.cell (show bx < G by have := HG.out; omega)).trans (hcx i' hin2)
              have c9 : wr.cell? ⟨by1, oy + j', none⟩ = some (.int .i32 (y.getD j' 0)) := (BL.out.cell (show by1 < G by have := HG.out; omega)).trans (hcy j' hjm2)
              clear hcx hcy q1 q2 q3 q4 hb
              have HS : Hid (tab x y i j = min (tab x y i' j' + if x.getD i' 0 = y.getD j' 0 then 0 else 1) (min (tab x y i' j + 1) (tab x y i j' + 1))) := Lib.hid (by
                have h1 := HEi.out; have h2 := HEj.out
                rw [h1, h2]
                exact tab_step x y i' j' (by rw [HN.out]; exact hin2) (by rw [HM.out]; exact hjm2))
              have b1 := tab_le x y i' j'
              have b2 := tab_le x y i' j
              have b3 := tab_le x y i j'
              rw [HN.out, HM.out] at b1 b2 b3
              obtain ⟨t1, ht1⟩ : ∃ t, tab x y i' j' = t := ⟨_, rfl⟩
              obtain ⟨t2, ht2⟩ : ∃ t, tab x y i' j = t := ⟨_, rfl⟩
              obtain ⟨t3, ht3⟩ : ∃ t, tab x y i j' = t := ⟨_, rfl⟩
              obtain ⟨p, hp⟩ : ∃ p, x.getD i' 0 = p := ⟨_, rfl⟩
              obtain ⟨r, hr⟩ : ∃ r, y.getD j' 0 = r := ⟨_, rfl⟩
              rw [ht1, ht2, ht3, hp, hr] at HS
              rw [ht1] at b1 c5
              rw [ht2] at b2 c6
              rw [ht3] at b3 c7
              rw [hp] at c8
              rw [hr] at c9
              clear ht1 ht2 ht3 hp hr
              have iL : (i' : Int) < (n : Int) := by omega
              have jL : (j' : Int) < (m : Int) := by omega
              have iN : (i' : Int) < (N : Int) := by omega
              have jM : (j' : Int) < (M : Int) := by omega
              obtain ⟨t, HTT, hcase⟩ : ∃ t : Nat, Hid (t = t1 + if p = r then 0 else 1) ∧ ((p = r ∧ t1 = t) ∨ (¬ p = r ∧ (t1 : Int) + 1 = (t : Int))) := by
                by_cases h : p = r
                · exact ⟨t1, Lib.hid (by rw [if_pos h]; rfl), .inl ⟨h, rfl⟩⟩
                · exact ⟨t1 + 1, Lib.hid (by rw [if_neg h]), .inr ⟨h, rfl⟩⟩
              rw [← HTT.out] at HS
              obtain ⟨U, hU⟩ : ∃ U : Nat, U = t2 + 1 := ⟨_, rfl⟩
              obtain ⟨V, hV⟩ : ∃ V : Nat, V = t3 + 1 := ⟨_, rfl⟩
              obtain ⟨P, hP⟩ : ∃ P : Nat, P = min t U := ⟨_, rfl⟩
              obtain ⟨Q, hQ⟩ : ∃ Q : Nat, Q = min P V := ⟨_, rfl⟩
              have HQ : Hid (Q = tab x y i j) := Lib.hid (by rw [HS.out]; omega)
              have m1 : (if (U : Int) < (t : Int) then (U : Int) else (t : Int)) = (P : Int) := by split <;> omega
              have m2 : (if (V : Int) < (P : Int) then (V : Int) else (P : Int)) = (Q : Int) := by split <;> omega
              have m3 : (if U < t then (U : Int) else (t : Int)) = (P : Int) := by split <;> omega
              have m4 : (if V < P then (V : Int) else (P : Int)) = (Q : Int) := by split <;> omega
              have wrp : ∀ z : Int, 0 ≤ z → z ≤ 9000000000000000000 → IntKind.i64.wrap z = z := fun z h1 h2 => by rw [IntKind.wrap_i64]; omega
              have w1 : IntKind.i64.wrap (i' : Int) = (i' : Int) := wrp _ (by omega) (by omega)
              have w2 : IntKind.i64.wrap (j' : Int) = (j' : Int) := wrp _ (by omega) (by omega)
              have w3 : IntKind.i64.wrap ((t2 : Int) + 1) = (U : Int) := (wrp _ (by omega) (by omega)).trans (by omega)
              have w4 : IntKind.i64.wrap ((t3 : Int) + 1) = (V : Int) := (wrp _ (by omega) (by omega)).trans (by omega)
              have HU := Lib.hid hU; clear hU
              have HV' := Lib.hid hV; clear hV
              have HP := Lib.hid hP; clear hP
              have HQ' := Lib.hid hQ; clear hQ
              rcases hcase with ⟨hpr, htt⟩ | ⟨hpr, htt⟩
              · subst hpr
                subst htt
                go_wp2
                go_quiet (fail)
                go_wp2
                obtain ⟨w2, hw2⟩ : ∃ w2, w2 = wr.drewN nq := ⟨_, rfl⟩
                have d1 : w2.cell? ⟨G, i, none⟩ = some (.slice (some ⟨g, 0, none⟩) M M) := by rw [hw2]; exact c1
                have d2 : w2.cell? ⟨g, j, none⟩ = some (.int .i64 (oj : Int)) := by rw [hw2]; exact c2
                have d3 : w2.frozen? ⟨g, j, none⟩ = false := by rw [hw2]; exact c3
                have d4 : w2.cell? ⟨G, i', none⟩ = some (.slice (some ⟨b, 0, none⟩) M M) := by rw [hw2]; exact c4
                have d6 : w2.cell? ⟨b, j, none⟩ = some (.int .i64 (t2 : Int)) := by rw [hw2]; exact c6
                have d7 : w2.cell? ⟨g, j', none⟩ = some (.int .i64 (t3 : Int)) := by rw [hw2]; exact c7
                have R2 : Hid (RowN w2 g o) := Lib.hid (by rw [hw2]; exact R.out)
                have B2 : Hid (Below g W w2) := Lib.hid (by rw [hw2]; exact below_draws HBg.out _)
                rw [← hw2]
                clear hw2 c1 c2 c3 c4 c5 c6 c7 c8 c9
                go_still_tail 25, (by kernel_rfl)
                change wpList _ _ _ _ _ w2.drew
                obtain ⟨w3, hw3⟩ : ∃ w3, w3 = w2.drew := ⟨_, rfl⟩
                have f2 : w3.cell? ⟨g, j, none⟩ = some (.int .i64 (oj : Int)) := by rw [hw3]; exact d2
                have f3 : w3.frozen? ⟨g, j, none⟩ = false := by rw [hw3]; exact d3
                have R3 : Hid (RowN w3 g o) := Lib.hid (by rw [hw3]; exact R2.out)
                have B3 : Hid (Below g W w3) := Lib.hid (by rw [hw3]; exact B2.out.drew)
                rw [← hw3]
                clear hw3 d1 d2 d3 d4 d6 d7 R2 B2
                go_wp2
                go_roundg (M - (j + 1))
                case measure => omega
                case rel =>
                  refine ⟨j + 1, o.set j Q, rfl, by omega, by omega, Lib.hid (R3.out.set j Q), Lib.hid (by rw [List.length_set]; exact HO.out), Lib.hid (fun k hk => ?_), Lib.hid (B3.out.setCell (Nat.le_refl _) _)⟩
                  rw [getD_set _ _ _ _ (by have := HO.out; omega)]
                  split
                  · rename_i e; subst e; exact HQ.out
                  · exact HV.out k (by omega)
              · go_wp2
                go_quiet (fail)
                go_wp2
                obtain ⟨w2, hw2⟩ : ∃ w2, w2 = wr.drewN nq := ⟨_, rfl⟩
                have d1 : w2.cell? ⟨G, i, none⟩ = some (.slice (some ⟨g, 0, none⟩) M M) := by rw [hw2]; exact c1
                have d2 : w2.cell? ⟨g, j, none⟩ = some (.int .i64 (oj : Int)) := by rw [hw2]; exact c2
                have d3 : w2.frozen? ⟨g, j, none⟩ = false := by rw [hw2]; exact c3
                have d4 : w2.cell? ⟨G, i', none⟩ = some (.slice (some ⟨b, 0, none⟩) M M) := by rw [hw2]; exact c4
                have d6 : w2.cell? ⟨b, j, none⟩ = some (.int .i64 (t2 : Int)) := by rw [hw2]; exact c6
                have d7 : w2.cell? ⟨g, j', none⟩ = some (.int .i64 (t3 : Int)) := by rw [hw2]; exact c7
                have R2 : Hid (RowN w2 g o) := Lib.hid (by rw [hw2]; exact R.out)
                have B2 : Hid (Below g W w2) := Lib.hid (by rw [hw2]; exact below_draws HBg.out _)
                rw [← hw2]
                clear hw2 c1 c2 c3 c4 c5 c6 c7 c8 c9
                go_still_tail 25, (by kernel_rfl)
                change wpList _ _ _ _ _ w2.drew
                obtain ⟨w3, hw3⟩ : ∃ w3, w3 = w2.drew := ⟨_, rfl⟩
                have f2 : w3.cell? ⟨g, j, none⟩ = some (.int .i64 (oj : Int)) := by rw [hw3]; exact d2
                have f3 : w3.frozen? ⟨g, j, none⟩ = false := by rw [hw3]; exact d3
                have R3 : Hid (RowN w3 g o) := Lib.hid (by rw [hw3]; exact R2.out)
                have B3 : Hid (Below g W w3) := Lib.hid (by rw [hw3]; exact B2.out.drew)
                rw [← hw3]
                clear hw3 d1 d2 d3 d4 d6 d7 R2 B2
                go_wp2
                go_roundg (M - (j + 1))
                case measure => omega
                case rel =>
                  refine ⟨j + 1, o.set j Q, rfl, by omega, by omega, Lib.hid (R3.out.set j Q), Lib.hid (by rw [List.length_set]; exact HO.out), Lib.hid (fun k hk => ?_), Lib.hid (B3.out.setCell (Nat.le_refl _) _)⟩
                  rw [getD_set _ _ _ _ (by have := HO.out; omega)]
                  split
                  · rename_i e; subst e; exact HQ.out
                  · exact HV.out k (by omega)
        · obtain rfl : j = M := by omega
          have HT2 : Hid (TblAt wr G x y j N (i + 1) (gs ++ [g])) := Lib.hid (TblAt.next HL.out RS.out (fun k b hk => by obtain ⟨q1, q2, q3⟩ := K2.out k b hk; exact ⟨q1, q3.below HBg.out q2⟩) k4 R.out HO.out HV.out)
          have HB2 : Hid (Below G w wr) := Lib.hid (BW.out.trans (HBg.out.mono (Nat.le_of_lt k4)))
          go_wp2
          go_roundg (N - (i + 1))
          case measure => omega
          case rel => exact ⟨i + 1, gs ++ [g], rfl, by omega, by omega, HT2, HB2⟩
    · obtain rfl : i = N := by omega
      go_wp2
      go_ret
      have h1 := HN2.out
      have h2 := HM2.out
      have h3 := HT.out
      rw [h1, h2] at h3
      rw [h1]
      exact ⟨G, gs, rfl, h3, HG.out ▸ HB.out⟩
end Go.Proofs.YthigbnklekdemaaDoor
