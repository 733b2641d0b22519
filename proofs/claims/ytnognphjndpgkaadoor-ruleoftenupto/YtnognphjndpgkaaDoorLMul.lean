/- A product by digits, as errataref03.times makes it. -/
import Derived.Test.YtnognphjndpgkaaDoorLRow
import Derived.StillTailTactics
import Derived.BigRegion
namespace Go.Proofs.YtnognphjndpgkaaDoor
open Go.RowKit

def cellsNL (l : List Nat) : Array Value := (l.map fun x : Nat => Value.int .i64 (x : Int)).toArray
/-- Block g is a row of numbers. -/
def RowNL (w : World) (g : Nat) (l : List Nat) : Prop := w.heap[g]? = some (.cells (cellsNL l) 3)
theorem RowNL.cell {w : World} {g : Nat} {l : List Nat} (h : RowNL w g l) (j : Nat) (hj : j < l.length) : w.cell? ⟨g, j, none⟩ = some (.int .i64 ((l.getD j 0 : Nat) : Int)) := by
  rw [cell_of_row w g j (cellsNL l) _ (0, 0) h]
  simp [cellsNL, List.getD_eq_getElem?_getD, hj]
theorem RowNL.frozen {w : World} {g : Nat} {l : List Nat} (h : RowNL w g l) (j : Nat) : w.frozen? ⟨g, j, none⟩ = false := by
  have h' : w.heap[g]? = some (.cells (cellsNL l) 3 (0, 0)) := h
  simp [World.frozen?, h']
theorem RowNL.set {w : World} {g : Nat} {l : List Nat} (h : RowNL w g l) (j x : Nat) : RowNL (w.setCell ⟨g, j, none⟩ (.int .i64 (x : Int))) g (l.set j x) := by
  have h' : w.heap[g]? = some (.cells (cellsNL l) 3 (0, 0)) := h
  have e : cellsNL (l.set j x) = (cellsNL l).setIfInBounds j (.int .i64 (x : Int)) := by simp [cellsNL, List.map_set]
  show _ = some (Obj.cells (cellsNL (l.set j x)) _)
  rw [setCell_eq_setRow w g j (cellsNL l) _ (0, 0) _ h', e]
  exact setRow_heap w g _ _ _ (0, 0) h'
theorem RowNL.drew {w : World} {g : Nat} {l : List Nat} (h : RowNL w g l) (q : Nat) : RowNL (w.drewN q) g l := h
theorem RowNL.below {w w' : World} {g B : Nat} {l : List Nat} (h : RowNL w g l) (hb : Below B w w') (hB : g < B) : RowNL w' g l := (hb.block g hB).trans h

/-- make(long, n). -/
theorem make_long (w : World) (n : Nat) (hn : n ≤ 1000000) : (Instr.makeSlice 97 (.int .i64 (n : Int)) (.int .i64 (n : Int))).run Tryd.prog w =
    .ok (.slice (some ⟨w.heap.size, 0, none⟩) n n) (w.alloc (.cells (cellsNL (List.replicate n 0)) 3)) := by
  obtain ⟨i0, hi, hz0, hz1, hz2⟩ := info_parts infoIL
  have h := run_make (P := Tryd.prog) w 97 3 i0 _ Tryd.underlying97 hi hz0 .i64 .i64 (n : Int) (n : Int) (by omega) (Int.le_refl _) (by rw [hz2]; omega) (by omega)
  rw [h, hz1]
  have e : madeCells (Value.int .i64 0).cells (n * 1) = cellsNL (List.replicate n 0) := by
    rw [Nat.mul_one]
    apply Array.ext
    · simp [size_madeCells, cellsNL]
    · intro i h1 h2
      simp [madeCells, cellsNL, Value.cells, Nat.mod_one]
  simp only [Int.toNat_natCast]
  rw [e]

theorem valD_small {l : List Nat} (h : ∀ j, l.getD j 0 < 10000) : valD l < 10000 ^ l.length :=
  valD_lt fun d hd => by
    obtain ⟨i, hi, rfl⟩ := List.getElem_of_mem hd
    have := h i
    rwa [List.getD_eq_getElem?_getD, List.getElem?_eq_getElem hi] at this
/-- Behind the last carry all cells are digits: the uppermost is 0. -/
theorem mul_small {o : List Nat} {n m L vx vy : Nat} (hl : o.length = L) (hL : L = n + m + 1) (hv : valD o = vx * vy) (hx : vx < 10000 ^ n) (hy : vy < 10000 ^ m) (hd : ∀ j, j < n + m → o.getD j 0 < 10000) : ∀ j, o.getD j 0 < 10000 := by
  intro j
  rcases Nat.lt_trichotomy j (n + m) with h | h | h
  · exact hd j h
  · have h1 := valD_ge (l := o) j (by omega)
    have h2 : vx * vy < 10000 ^ n * 10000 ^ m := Nat.mul_lt_mul'' hx hy
    rw [← Nat.pow_add, ← h, ← hv] at h2
    rcases Nat.eq_zero_or_pos (o.getD j 0) with h0 | h0
    · omega
    · have h3 : 10000 ^ j * 1 ≤ 10000 ^ j * o.getD j 0 := Nat.mul_le_mul_left _ h0
      omega
  · rw [List.getD_eq_getElem?_getD, List.getElem?_eq_none (by omega)]
    decide
theorem valD_trim {o : List Nat} {l : Nat} (hz : ∀ j, l ≤ j → o.getD j 0 = 0) : valD (o.take l) = valD o := by
  have h : ∀ k, valD (o.take (l + k)) = valD (o.take l) := by
    intro k
    induction k with
    | zero => rfl
    | succ k ih =>
      by_cases hlt : l + k < o.length
      · rw [← Nat.add_assoc, valD_take o (l + k) hlt, ih, hz _ (by omega)]
        omega
      · rw [← ih, List.take_of_length_le (by omega), List.take_of_length_le (by omega)]
  have := h o.length
  rw [List.take_of_length_le (by omega)] at this
  exact this.symm
theorem trim_end {w W : World} {g L l vx : Nat} {o : List Nat} (R : RowNL W g o) (HO : o.length = L) (HD : ∀ j, o.getD j 0 < 10000) (HV : valD o = vx) (HB : Below w.heap.size w W) (hl : l ≤ L) (hL : L ≤ maxLen)
    (hz : ∀ j, l ≤ j → o.getD j 0 = 0) (hlast : ∀ j, j + 1 = l → o.getD j 0 ≠ 0) :
    ∃ v r, Ending.returned (.slice (some ⟨g, 0, none⟩) l L) = .returned v ∧ NRuns W v r ∧ Can r ∧ valD r = vx ∧ Below w.heap.size w W := by
  have hlen : (o.take l).length = l := by rw [List.length_take]; omega
  have hget : ∀ j, j < l → (o.take l).getD j 0 = o.getD j 0 := fun j hj => by
    rw [List.getD_eq_getElem?_getD, List.getD_eq_getElem?_getD, List.getElem?_take, if_pos hj]
  refine ⟨_, o.take l, rfl, ⟨some ⟨g, 0, none⟩, L, by rw [hlen], by omega, ⟨hL, fun h => by cases h⟩, fun h0 => ⟨g, 0, rfl, (Array.getElem?_eq_some_iff.1 R).1, fun j hj => ?_⟩⟩, ⟨fun j => ?_, fun j hj => ?_⟩, by rw [valD_trim hz, HV], HB⟩
  · rw [Nat.zero_add, hget j (by omega)]
    exact R.cell j (by omega)
  · by_cases hj : j < l
    · rw [hget j hj]; exact HD j
    · rw [List.getD_eq_getElem?_getD, List.getElem?_eq_none (by omega)]; decide
  · rw [hget j (by omega)]
    exact hlast j (by omega)

set_option maxRecDepth 100000 in
set_option maxHeartbeats 4000000 in
theorem mul_any (u v : Value) (x y : List Nat) (w : World) (hx : NRuns w u x) (hy : NRuns w v y) (lx : x.length ≤ 40) (ly : y.length ≤ 40) (cx : ∀ j, x.getD j 0 < 10000) (cy : ∀ j, y.getD j 0 < 10000) :
    Calls Tryd.prog 78 #[u, v] w fun e w' => ∃ v l, e = .returned v ∧ NRuns w' v l ∧ Can l ∧ valD l = valD x * valD y ∧ Below w.heap.size w w' := by
  obtain ⟨A, c, rfl, hxc, ⟨hxm, _⟩, hxx⟩ := hx
  obtain ⟨B, d, rfl, hyc, ⟨hym, _⟩, hyy⟩ := hy
  unfold maxLen at hxm hym
  obtain ⟨n, hn⟩ : ∃ n, x.length = n := ⟨_, rfl⟩
  obtain ⟨m, hm⟩ : ∃ m, y.length = m := ⟨_, rfl⟩
  rw [hn] at hxc hxx lx ⊢
  rw [hm] at hyc hyy ly ⊢
  have HN := Lib.hid hn; clear hn
  have HMm := Lib.hid hm; clear hm
  have HX := Lib.hid hxx; clear hxx
  have HXC := Lib.hid cx; clear cx
  have HYC := Lib.hid cy; clear cy
  have HY := Lib.hid hyy; clear hyy
  obtain ⟨L, hL⟩ : ∃ L : Nat, (n : Int) + (m : Int) + 1 = (L : Int) := ⟨n + m + 1, by omega⟩
  have hL2 : L = n + m + 1 := by omega
  have HL := Lib.hid hL2; clear hL2
  have hmk := make_long w L (by have := HL.out; omega)
  go_enter Tryd.func78, Tryd.ntmps78
  go_wp2
  clear hmk
  obtain ⟨G, hG⟩ : ∃ G, G = w.heap.size := ⟨_, rfl⟩
  rw [← hG]
  have R0 : Hid (RowNL (w.alloc (.cells (cellsNL (List.replicate L 0)) 3)) G (List.replicate L 0)) := Lib.hid (by rw [hG]; exact heap_alloc_new w _)
  have B0 : Hid (Below G w (w.alloc (.cells (cellsNL (List.replicate L 0)) 3))) := Lib.hid ((Below.refl _ _).alloc (by omega) _)
  have HG := Lib.hid hG; clear hG
  go_loopg [18] n (fun g s18 wr => ∃ (i : Nat) (o : List Nat), s18 = .int .i64 i ∧ i ≤ n ∧ n - i ≤ g ∧ Hid (RowNL wr G o) ∧ Hid (o.length = L) ∧ Hid (Below G w wr) ∧ Hid (valD o = valD (x.take i) * valD y) ∧ Hid (capD o (200000000 * (i * m))))
  case atStart => exact ⟨0, _, rfl, by omega, by omega, R0, Lib.hid (by simp), B0, Lib.hid (by simp [valD_zeros, valD]), Lib.hid (fun j => by simp [List.getD_eq_getElem?_getD, List.getElem?_replicate]; split <;> simp)⟩
  case round =>
    clear R0 B0
    obtain ⟨i, o, rfl, hi, hg, R, HO, HB, HV, HCp⟩ := hrel
    by_cases hin : i < n
    · have hin' : (i : Int) < (n : Int) := by omega
      obtain ⟨bx, ox, rfl, hbx, hcx⟩ := HX.out (by omega)
      have hci := hcx i hin
      obtain ⟨a, ha⟩ : ∃ a, x.getD i 0 = a := ⟨_, rfl⟩
      rw [ha] at hci
      have HA := Lib.hid ha; clear ha
      have HCI := Lib.hid hci; clear hci hcx
      have ba : a < 10000 := by rw [← HA.out]; exact HXC.out i
      go_wp2
      go_loopg [23] m (fun g s23 wr => ∃ (k : Nat) (o : List Nat), s23 = .int .i64 k ∧ k ≤ m ∧ m - k ≤ g ∧ Hid (RowNL wr G o) ∧ Hid (o.length = L) ∧ Hid (Below G w wr) ∧ Hid (valD o = valD (x.take i) * valD y + 10000 ^ i * (a * valD (y.take k))) ∧ Hid (capD o (200000000 * (i * m + k))))
      case atStart => exact ⟨0, o, rfl, by omega, by omega, R, HO, HB, Lib.hid (by rw [HV.out]; simp [valD]), HCp⟩
      case round =>
        clear R HO HB HV HCp
        obtain ⟨k, o, rfl, hk, hg2, R, HO, HB, HV, HCp⟩ := hrel
        by_cases hkm : k < m
        · have hkm' : (k : Int) < (m : Int) := by omega
          obtain ⟨by', oy, rfl, hby, hcy⟩ := HY.out (by omega)
          have hck := hcy k hkm
          obtain ⟨b, hb⟩ : ∃ b, y.getD k 0 = b := ⟨_, rfl⟩
          rw [hb] at hck
          have HBk := Lib.hid hb; clear hb
          have bb : b < 10000 := by rw [← HBk.out]; exact HYC.out k
          have f1 : wr.cell? ⟨bx, ox + i, none⟩ = some (.int .i64 (a : Int)) := (HB.out.cell (show bx < G by have := HG.out; omega)).trans HCI.out
          have f2 : wr.cell? ⟨by', oy + k, none⟩ = some (.int .i64 (b : Int)) := (HB.out.cell (show by' < G by have := HG.out; omega)).trans hck
          clear hcy hck
          obtain ⟨p, hp⟩ : ∃ p : Nat, (i : Int) + (k : Int) = (p : Int) := ⟨i + k, by omega⟩
          have hpL : p + 1 < L := by have := HL.out; omega
          obtain ⟨op, hop⟩ : ∃ op, o.getD p 0 = op := ⟨_, rfl⟩
          obtain ⟨oq, hoq⟩ : ∃ oq, o.getD (p + 1) 0 = oq := ⟨_, rfl⟩
          have bim : i * m ≤ 40 * 40 := Nat.mul_le_mul (by omega) ly
          have bim2 : 200000000 * (i * m + k) ≤ 1000000000000 := by generalize i * m = z at bim ⊢; omega
          have bop : op ≤ 1000000000000 := by rw [← hop]; exact Nat.le_trans (HCp.out p) bim2
          have boq : oq ≤ 1000000000000 := by rw [← hoq]; exact Nat.le_trans (HCp.out (p + 1)) bim2
          have f3 : wr.cell? ⟨G, p, none⟩ = some (.int .i64 (op : Int)) := by rw [← hop]; exact R.out.cell p (by have := HO.out; omega)
          have f4 := R.out.frozen p
          obtain ⟨ab, hab⟩ : ∃ ab : Nat, (a : Int) * (b : Int) = (ab : Int) := ⟨a * b, by rw [Int.natCast_mul]⟩
          have bab : ab ≤ 9999 * 9999 := by
            have h1 : a * b ≤ 9999 * 9999 := Nat.mul_le_mul (by omega) (by omega)
            rw [← Int.natCast_mul] at hab
            omega
          clear bim bim2
          go_wp2
          have wrp : ∀ z : Int, 0 ≤ z → z ≤ 9000000000000000000 → IntKind.i64.wrap z = z := fun z h1 h2 => by rw [IntKind.wrap_i64]; omega
          obtain ⟨s, hs⟩ : ∃ s : Nat, s = op + ab := ⟨_, rfl⟩
          have w1 : IntKind.i64.wrap (p : Int) = (p : Int) := wrp _ (by omega) (by omega)
          have w2 : IntKind.i64.wrap (ab : Int) = (ab : Int) := wrp _ (by omega) (by omega)
          have w3 : IntKind.i64.wrap ((op : Int) + (ab : Int)) = (s : Int) := (wrp _ (by omega) (by omega)).trans (by omega)
          have hpL' : (p : Int) < (L : Int) := by omega
          have HS := Lib.hid hs; clear hs
          go_still_tail 16, (by kernel_rfl)
          change wpList _ _ _ _ _ wr.drew
          obtain ⟨w2, hw2⟩ : ∃ w2, w2 = wr.drew := ⟨_, rfl⟩
          have R2 : Hid (RowNL w2 G o) := Lib.hid (by rw [hw2]; exact R.out)
          have B2 : Hid (Below G w w2) := Lib.hid (by rw [hw2]; exact HB.out.drew)
          rw [← hw2]
          clear hw2 f1 f2 f3 f4
          have g1 : w2.cell? ⟨G, p, none⟩ = some (.int .i64 (op : Int)) := by rw [← hop]; exact R2.out.cell p (by have := HO.out; omega)
          have g2 := R2.out.frozen p
          go_wp2
          obtain ⟨w3, hw3⟩ : ∃ w3, w3 = w2.setCell ⟨G, p, none⟩ (.int .i64 (s : Int)) := ⟨_, rfl⟩
          have R3 : Hid (RowNL w3 G (o.set p s)) := Lib.hid (by rw [hw3]; exact R2.out.set p s)
          have B3 : Hid (Below G w w3) := Lib.hid (by rw [hw3]; exact B2.out.setCell (Nat.le_refl _) _)
          rw [← hw3]
          clear hw3 g1 g2 R2 B2
          obtain ⟨p1, hp1⟩ : ∃ p1 : Nat, (p : Int) + 1 = (p1 : Int) := ⟨p + 1, rfl⟩
          have hp1' : p1 = p + 1 := by omega
          obtain ⟨sq, hsq⟩ : ∃ sq : Nat, (s : Int) / 10000 = (sq : Int) := ⟨s / 10000, by omega⟩
          have hsq2 : Int.tdiv (s : Int) 10000 = (sq : Int) := by rw [← hsq]; exact Int.tdiv_eq_ediv_of_nonneg (by omega)
          obtain ⟨sr, hsr⟩ : ∃ sr : Nat, (s : Int) % 10000 = (sr : Int) := ⟨s % 10000, by omega⟩
          have hsr2 : Int.tmod (s : Int) 10000 = (sr : Int) := by rw [← hsr]; exact Int.tmod_eq_emod_of_nonneg (by omega)
          obtain ⟨t, ht⟩ : ∃ t : Nat, t = oq + sq := ⟨_, rfl⟩
          have bs : s ≤ 2000000000000 := by have := HS.out; omega
          have w4 : IntKind.i64.wrap (p1 : Int) = (p1 : Int) := wrp _ (by omega) (by omega)
          have w5 : IntKind.i64.wrap (sq : Int) = (sq : Int) := wrp _ (by omega) (by omega)
          have w6 : IntKind.i64.wrap ((oq : Int) + (sq : Int)) = (t : Int) := (wrp _ (by omega) (by omega)).trans (by omega)
          have w7 : IntKind.i64.wrap (sr : Int) = (sr : Int) := wrp _ (by omega) (by omega)
          have hp1L : (p1 : Int) < (L : Int) := by omega
          have HT := Lib.hid ht; clear ht
          have HQ : Hid (sq = s / 10000) := Lib.hid (by omega)
          have HSR : Hid (sr = s % 10000) := Lib.hid (by omega)
          have f5 : w3.cell? ⟨G, p, none⟩ = some (.int .i64 (s : Int)) := by
            have := R3.out.cell p (by rw [List.length_set]; have := HO.out; omega)
            rwa [getD_setL _ _ _ _ (by have := HO.out; omega), if_pos rfl] at this
          have f6 : w3.cell? ⟨G, p1, none⟩ = some (.int .i64 (oq : Int)) := by
            have := R3.out.cell p1 (by rw [List.length_set]; have := HO.out; omega)
            rwa [getD_setL _ _ _ _ (by have := HO.out; omega), if_neg (by omega), hp1', hoq, ← hp1'] at this
          have HP1 := Lib.hid hp1'; clear hp1'
          go_still_tail 15, (by kernel_rfl)
          change wpList _ _ _ _ _ w3.drew
          obtain ⟨w4', hw4⟩ : ∃ w2, w2 = w3.drew := ⟨_, rfl⟩
          have R4 : Hid (RowNL w4' G (o.set p s)) := Lib.hid (by rw [hw4]; exact R3.out)
          have B4 : Hid (Below G w w4') := Lib.hid (by rw [hw4]; exact B3.out.drew)
          have g1 : w4'.cell? ⟨G, p1, none⟩ = some (.int .i64 (oq : Int)) := by rw [hw4]; exact f6
          rw [← hw4]
          clear hw4 f5 f6 R3 B3
          have g2 := R4.out.frozen p1
          have R5 : Hid (RowNL (w4'.setCell ⟨G, p1, none⟩ (.int .i64 (t : Int))) G ((o.set p s).set p1 t)) := Lib.hid (R4.out.set p1 t)
          have B5 : Hid (Below G w (w4'.setCell ⟨G, p1, none⟩ (.int .i64 (t : Int)))) := Lib.hid (B4.out.setCell (Nat.le_refl _) _)
          have g3 : (w4'.setCell ⟨G, p1, none⟩ (.int .i64 (t : Int))).cell? ⟨G, p, none⟩ = some (.int .i64 (s : Int)) := by
            have := R5.out.cell p (by rw [List.length_set, List.length_set]; have := HO.out; omega)
            rwa [getD_setL _ _ _ _ (by rw [List.length_set]; have := HO.out; have := HP1.out; omega), if_neg (by have := HP1.out; omega), getD_setL _ _ _ _ (by have := HO.out; omega), if_pos rfl] at this
          have g4 := R5.out.frozen p
          go_wp2
          have HE : Hid (((o.set p s).set p1 t).set p sr = stepD o p ab) := Lib.hid (by
            have h1 := HS.out; have h2 := HT.out; have h3 := HQ.out; have h4 := HSR.out; have h5 := HP1.out
            rw [h5, h4, h2, h3, h1, ← hoq, ← hop, stepD, List.set_comm _ _ (by omega), List.set_set]
            exact List.set_comm _ _ (by omega))
          have hpik : p = i + k := by omega
          have habn : ab = a * b := by rw [← Int.natCast_mul] at hab; omega
          have hpo : p + 1 < o.length := by have := HO.out; omega
          go_roundg (m - (k + 1))
          case measure => omega
          case rel =>
            refine ⟨k + 1, stepD o p ab, rfl, by omega, by omega, Lib.hid ?_, Lib.hid ?_, Lib.hid (B5.out.setCell (Nat.le_refl _) _), Lib.hid ?_, Lib.hid ?_⟩
            · rw [← HE.out]; exact R5.out.set p sr
            · rw [stepD_length]; exact HO.out
            · rw [stepD_val o p ab hpo, HV.out, valD_take y k (by rw [HMm.out]; exact hkm), HBk.out, hpik, habn, Nat.pow_add, Nat.mul_add, Nat.mul_add, Nat.add_assoc]
              congr 2
              rw [Nat.mul_assoc, Nat.mul_left_comm a]
            · have h1 := stepD_cap hpo HCp.out (by have : i * m ≤ 40 * 40 := Nat.mul_le_mul (by omega) ly; generalize i * m = z at this ⊢; omega) (x := ab) (by omega)
              have e : 200000000 * (i * m + k) + 200000000 = 200000000 * (i * m + (k + 1)) := by omega
              rw [e] at h1
              exact h1
        · obtain rfl : k = m := by omega
          have HV2 : Hid (valD o = valD (x.take (i + 1)) * valD y) := Lib.hid (by
            rw [HV.out, valD_take x i (by rw [HN.out]; exact hin), HA.out, show y.take k = y from List.take_of_length_le (by rw [HMm.out]; exact Nat.le_refl _), Nat.add_mul, Nat.mul_assoc])
          have HC2 : Hid (capD o (200000000 * ((i + 1) * k))) := Lib.hid (by have := HCp.out; rwa [show i * k + k = (i + 1) * k by rw [Nat.succ_mul]] at this)
          clear HV HCp
          go_wp2
          go_roundg (n - (i + 1))
          case measure => omega
          case rel => exact ⟨i + 1, o, rfl, by omega, by omega, R, HO, HB, HV2, HC2⟩
    · obtain rfl : i = n := by omega
      have HV2 : Hid (valD o = valD x * valD y) := Lib.hid (by rw [HV.out, List.take_of_length_le (by rw [HN.out]; exact Nat.le_refl _)])
      have HC2 : Hid (capD o 400000000000) := Lib.hid (fun j => Nat.le_trans (HCp.out j) (by have : i * m ≤ 40 * 40 := Nat.mul_le_mul lx ly; generalize i * m = z at this ⊢; omega))
      clear HV HCp
      go_wp2
      clear hin
      go_loopg [8] L (fun g s8 wr => ∃ (i : Nat) (o : List Nat), s8 = .int .i64 i ∧ i + 1 ≤ L ∧ L - i ≤ g ∧ Hid (RowNL wr G o) ∧ Hid (o.length = L) ∧ Hid (Below G w wr) ∧ Hid (valD o = valD x * valD y) ∧ Hid (∀ j, j < i → o.getD j 0 < 10000) ∧ Hid (capD o (400000000000 + 200000000 * i)))
      case atStart => exact ⟨0, o, rfl, by have := HL.out; omega, by omega, R, HO, HB, HV2, Lib.hid (fun j hj => by omega), HC2⟩
      case round =>
        clear R HO HB HV2 HC2
        obtain ⟨p, o, rfl, hp, hg2, R, HO, HB, HV, HD, HCp⟩ := hrel
        by_cases hpL : p + 1 < L
        · obtain ⟨p1, hp1⟩ : ∃ p1 : Nat, (p : Int) + 1 = (p1 : Int) := ⟨p + 1, rfl⟩
          have hp1L : (p1 : Int) < (L : Int) := by omega
          have hpL' : (p : Int) < (L : Int) := by omega
          have bL : L ≤ 81 := by have := HL.out; omega
          obtain ⟨s, hs⟩ : ∃ s, o.getD p 0 = s := ⟨_, rfl⟩
          obtain ⟨oq, hoq⟩ : ∃ oq, o.getD (p + 1) 0 = oq := ⟨_, rfl⟩
          have bs : s ≤ 1000000000000 := by rw [← hs]; exact Nat.le_trans (HCp.out p) (by omega)
          have boq : oq ≤ 1000000000000 := by rw [← hoq]; exact Nat.le_trans (HCp.out (p + 1)) (by omega)
          have hp1' : p1 = p + 1 := by omega
          obtain ⟨sq, hsq⟩ : ∃ sq : Nat, (s : Int) / 10000 = (sq : Int) := ⟨s / 10000, by omega⟩
          have hsq2 : Int.tdiv (s : Int) 10000 = (sq : Int) := by rw [← hsq]; exact Int.tdiv_eq_ediv_of_nonneg (by omega)
          obtain ⟨sr, hsr⟩ : ∃ sr : Nat, (s : Int) % 10000 = (sr : Int) := ⟨s % 10000, by omega⟩
          have hsr2 : Int.tmod (s : Int) 10000 = (sr : Int) := by rw [← hsr]; exact Int.tmod_eq_emod_of_nonneg (by omega)
          obtain ⟨t, ht⟩ : ∃ t : Nat, t = oq + sq := ⟨_, rfl⟩
          have wrp : ∀ z : Int, 0 ≤ z → z ≤ 9000000000000000000 → IntKind.i64.wrap z = z := fun z h1 h2 => by rw [IntKind.wrap_i64]; omega
          have w4 : IntKind.i64.wrap (p1 : Int) = (p1 : Int) := wrp _ (by omega) (by omega)
          have w5 : IntKind.i64.wrap (sq : Int) = (sq : Int) := wrp _ (by omega) (by omega)
          have w6 : IntKind.i64.wrap ((oq : Int) + (sq : Int)) = (t : Int) := (wrp _ (by omega) (by omega)).trans (by omega)
          have w7 : IntKind.i64.wrap (sr : Int) = (sr : Int) := wrp _ (by omega) (by omega)
          have HT := Lib.hid ht; clear ht
          have HQ : Hid (sq = s / 10000) := Lib.hid (by omega)
          have HSR : Hid (sr = s % 10000) := Lib.hid (by omega)
          have f5 : wr.cell? ⟨G, p, none⟩ = some (.int .i64 (s : Int)) := by rw [← hs]; exact R.out.cell p (by have := HO.out; omega)
          have f6 : wr.cell? ⟨G, p1, none⟩ = some (.int .i64 (oq : Int)) := by rw [← hoq, hp1']; exact R.out.cell (p + 1) (by have := HO.out; omega)
          have HP1 := Lib.hid hp1'; clear hp1'
          go_wp2
          go_still_tail 11, (by kernel_rfl)
          change wpList _ _ _ _ _ wr.drew
          obtain ⟨w4', hw4⟩ : ∃ w2, w2 = wr.drew := ⟨_, rfl⟩
          have R4 : Hid (RowNL w4' G o) := Lib.hid (by rw [hw4]; exact R.out)
          have B4 : Hid (Below G w w4') := Lib.hid (by rw [hw4]; exact HB.out.drew)
          have g1 : w4'.cell? ⟨G, p1, none⟩ = some (.int .i64 (oq : Int)) := by rw [hw4]; exact f6
          rw [← hw4]
          clear hw4 f5 f6 R HB
          have g2 := R4.out.frozen p1
          have R5 : Hid (RowNL (w4'.setCell ⟨G, p1, none⟩ (.int .i64 (t : Int))) G (o.set p1 t)) := Lib.hid (R4.out.set p1 t)
          have B5 : Hid (Below G w (w4'.setCell ⟨G, p1, none⟩ (.int .i64 (t : Int)))) := Lib.hid (B4.out.setCell (Nat.le_refl _) _)
          have g3 : (w4'.setCell ⟨G, p1, none⟩ (.int .i64 (t : Int))).cell? ⟨G, p, none⟩ = some (.int .i64 (s : Int)) := by
            have := R5.out.cell p (by rw [List.length_set]; have := HO.out; omega)
            rwa [getD_setL _ _ _ _ (by have := HO.out; have := HP1.out; omega), if_neg (by have := HP1.out; omega), hs] at this
          have g4 := R5.out.frozen p
          go_wp2
          have HE : Hid ((o.set p1 t).set p sr = stepD o p 0) := Lib.hid (by
            have h2 := HT.out; have h3 := HQ.out; have h4 := HSR.out; have h5 := HP1.out
            rw [h5, h4, h2, h3, ← hoq, ← hs]
            simp only [stepD, Nat.add_zero])
          have hpo : p + 1 < o.length := by have := HO.out; omega
          go_roundg (L - (p + 1))
          case measure => omega
          case rel =>
            refine ⟨p + 1, stepD o p 0, by go_num, by omega, by omega, Lib.hid ?_, Lib.hid ?_, Lib.hid (B5.out.setCell (Nat.le_refl _) _), Lib.hid ?_, Lib.hid ?_, Lib.hid ?_⟩
            · rw [← HE.out]; exact R5.out.set p sr
            · rw [stepD_length]; exact HO.out
            · rw [stepD_val o p 0 hpo, HV.out, Nat.mul_zero, Nat.add_zero]
            · intro j hj
              rw [stepD_getD o p 0 j hpo]
              split
              · exact Nat.mod_lt _ (by decide)
              · rw [if_neg (by omega)]; exact HD.out j (by omega)
            · have h1 := stepD_cap hpo HCp.out (by omega) (x := 0) (by omega)
              rwa [show 400000000000 + 200000000 * p + 200000000 = 400000000000 + 200000000 * (p + 1) by omega] at h1
        · have hpL' : ¬ ((p : Int) + 1 < (L : Int)) := by omega
          have HD2 : Hid (∀ j, o.getD j 0 < 10000) := Lib.hid (mul_small (n := i) (m := m) (L := L) HO.out (by have := HL.out; omega) HV.out (by have := valD_small HXC.out; rwa [HN.out] at this) (by have := valD_small HYC.out; rwa [HMm.out] at this) (fun j hj => HD.out j (by omega)))
          go_wp2
          clear HD HCp hpL hpL'
          go_loopg [5] L (fun g s5 wr' => ∃ (l : Nat), s5 = .slice (some ⟨G, 0, none⟩) l L ∧ l ≤ L ∧ l ≤ g ∧ Hid (∀ j, l ≤ j → o.getD j 0 = 0) ∧ wr' = wr)
          case atStart => exact ⟨L, rfl, Nat.le_refl _, Nat.le_refl _, Lib.hid (fun j hj => by rw [List.getD_eq_getElem?_getD, List.getElem?_eq_none (by have := HO.out; omega)]; rfl), rfl⟩
          case round =>
            obtain ⟨l, rfl, hl, hg3, HZ, rfl⟩ := hrel
            cases l with
            | zero =>
              go_wp2
              go_ret
              exact trim_end R.out HO.out HD2.out HV.out (HG.out ▸ HB.out) (Nat.zero_le _) (by have := HL.out; unfold maxLen; omega) HZ.out (fun j hj => by omega)
            | succ q =>
              obtain ⟨z, hz⟩ : ∃ z, o.getD q 0 = z := ⟨_, rfl⟩
              have f1 : wr.cell? ⟨G, q, none⟩ = some (.int .i64 (z : Int)) := by rw [← hz]; exact R.out.cell q (by have := HO.out; omega)
              have i1 : (0 : Int) < ((q + 1 : Nat) : Int) := by omega
              by_cases hz0 : z = 0
              · subst hz0
                go_wp2
                go_roundg q
                case measure => omega
                case rel => exact ⟨q, rfl, by omega, by omega, Lib.hid (fun j hj => by
                  by_cases e : j = q
                  · subst e; exact hz
                  · exact HZ.out j (by omega)), rfl⟩
              · have hz1 : ¬ (z : Int) = 0 := by omega
                go_wp2
                go_ret
                exact trim_end R.out HO.out HD2.out HV.out (HG.out ▸ HB.out) hl (by have := HL.out; unfold maxLen; omega) HZ.out (fun j hj => by
                  obtain rfl : j = q := by omega
                  rw [hz]; exact hz0)
end Go.Proofs.YtnognphjndpgkaaDoor
