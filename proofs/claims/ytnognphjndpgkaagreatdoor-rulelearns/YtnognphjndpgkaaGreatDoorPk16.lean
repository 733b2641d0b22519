/- Texts that several proofs of this seat share, one behind the other: LMul LMore LOf LSixt LRefC RRef2 DSortG. -/
import Derived.Test.YtnognphjndpgkaaGreatDoorPk15
import Derived.StillTailTactics
import Derived.BigRegion
import Derived.Test.YtnognphjndpgkaaGreatDoorPk13
import Derived.Test.YtnognphjndpgkaaGreatDoorPk14
import Derived.Test.YtnognphjndpgkaaGreatDoorPk9
import Derived.Test.YtnognphjndpgkaaGreatDoorPk8
import Derived.Sort.OwnSorted
/- A product by digits, as errataref03.times makes it. -/
namespace Go.Proofs.YtnognphjndpgkaaGreatDoor
open Go.RowKit

def cellsNL (l : List Nat) : Array Value := (l.map fun x : Nat => Value.int .i64 (x : Int)).toArray
/-- Block g is a row of numbers. -/
def RowNL (w : World) (g : Nat) (l : List Nat) : Prop := w.heap[g]? = some (.cells (cellsNL l) 3)
theorem RowNL.cell {w : World} {g : Nat} {l : List Nat} (h : RowNL w g l) (j : Nat) (hj : j < l.length) : w.cell? ⟨g, j, none⟩ = some (.int .i64 ((l.getD j 0 : Nat) : Int)) := by
  rw [cell_of_row w g j (cellsNL l) _ (0, 0) h]
  simp [cellsNL, List.getD_eq_getElem?_getD, hj]
theorem RowNL.frozen {w : World} {g : Nat} {l : List Nat} (h : RowNL w g l) (j : Nat) : w.frozen? ⟨g, j, none⟩ = false := by
  have h' : w.heap[g]? = some (.cells (cellsNL l) 3 (0, 0)) := h
  simp [World.frozen?, h']
theorem RowNL.set {w : World} {g : Nat} {l : List Nat} (h : RowNL w g l) (j x : Nat) : RowNL (w.setCell ⟨g, j, none⟩ (.int .i64 (x : Int))) g (l.set j x) := by
  have h' : w.heap[g]? = some (.cells (cellsNL l) 3 (0, 0)) := h
  have e : cellsNL (l.set j x) = (cellsNL l).setIfInBounds j (.int .i64 (x : Int)) := by simp [cellsNL, List.map_set]
  show _ = some (Obj.cells (cellsNL (l.set j x)) _)
  rw [setCell_eq_setRow w g j (cellsNL l) _ (0, 0) _ h', e]
  exact setRow_heap w g _ _ _ (0, 0) h'
theorem RowNL.drew {w : World} {g : Nat} {l : List Nat} (h : RowNL w g l) (q : Nat) : RowNL (w.drewN q) g l := h
theorem RowNL.below {w w' : World} {g B : Nat} {l : List Nat} (h : RowNL w g l) (hb : Below B w w') (hB : g < B) : RowNL w' g l := (hb.block g hB).trans h

/-- make(long, n). -/
theorem make_long (w : World) (n : Nat) (hn : n ≤ 1000000) : (Instr.makeSlice 108 (.int .i64 (n : Int)) (.int .i64 (n : Int))).run Tryz.prog w =
    .ok (.slice (some ⟨w.heap.size, 0, none⟩) n n) (w.alloc (.cells (cellsNL (List.replicate n 0)) 3)) := by
  obtain ⟨i0, hi, hz0, hz1, hz2⟩ := info_parts infoIL
  have h := run_make (P := Tryz.prog) w 108 3 i0 _ Tryz.underlying108 hi hz0 .i64 .i64 (n : Int) (n : Int) (by omega) (Int.le_refl _) (by rw [hz2]; omega) (by omega)
  rw [h, hz1]
  have e : madeCells (Value.int .i64 0).cells (n * 1) = cellsNL (List.replicate n 0) := by
    rw [Nat.mul_one]
    apply Array.ext
    · simp [size_madeCells, cellsNL]
    · intro i h1 h2
      simp [madeCells, cellsNL, Value.cells, Nat.mod_one]
  simp only [Int.toNat_natCast]
  rw [e]

theorem valD_small {l : List Nat} (h : ∀ j, l.getD j 0 < 10000) : valD l < 10000 ^ l.length :=
  valD_lt fun d hd => by
    obtain ⟨i, hi, rfl⟩ := List.getElem_of_mem hd
    have := h i
    rwa [List.getD_eq_getElem?_getD, List.getElem?_eq_getElem hi] at this
/-- Behind the last carry all cells are digits: the uppermost is 0. -/
theorem mul_small {o : List Nat} {n m L vx vy : Nat} (hl : o.length = L) (hL : L = n + m + 1) (hv : valD o = vx * vy) (hx : vx < 10000 ^ n) (hy : vy < 10000 ^ m) (hd : ∀ j, j < n + m → o.getD j 0 < 10000) : ∀ j, o.getD j 0 < 10000 := by
  intro j
  rcases Nat.lt_trichotomy j (n + m) with h | h | h
  · exact hd j h
  · have h1 := valD_ge (l := o) j (by omega)
    have h2 : vx * vy < 10000 ^ n * 10000 ^ m := Nat.mul_lt_mul'' hx hy
    rw [← Nat.pow_add, ← h, ← hv] at h2
    rcases Nat.eq_zero_or_pos (o.getD j 0) with h0 | h0
    · omega
    · have h3 : 10000 ^ j * 1 ≤ 10000 ^ j * o.getD j 0 := Nat.mul_le_mul_left _ h0
      omega
  · rw [List.getD_eq_getElem?_getD, List.getElem?_eq_none (by omega)]
    decide
theorem valD_trim {o : List Nat} {l : Nat} (hz : ∀ j, l ≤ j → o.getD j 0 = 0) : valD (o.take l) = valD o := by
  have h : ∀ k, valD (o.take (l + k)) = valD (o.take l) := by
    intro k
    induction k with
    | zero => rfl
    | succ k ih =>
      by_cases hlt : l + k < o.length
      · rw [← Nat.add_assoc, valD_take o (l + k) hlt, ih, hz _ (by omega)]
        omega
      · rw [← ih, List.take_of_length_le (by omega), List.take_of_length_le (by omega)]
  have := h o.length
  rw [List.take_of_length_le (by omega)] at this
  exact this.symm
theorem trim_end {w W : World} {g L l vx : Nat} {o : List Nat} (R : RowNL W g o) (HO : o.length = L) (HD : ∀ j, o.getD j 0 < 10000) (HV : valD o = vx) (HB : Below w.heap.size w W) (hl : l ≤ L) (hL : L ≤ maxLen)
    (hz : ∀ j, l ≤ j → o.getD j 0 = 0) (hlast : ∀ j, j + 1 = l → o.getD j 0 ≠ 0) :
    ∃ v r, Ending.returned (.slice (some ⟨g, 0, none⟩) l L) = .returned v ∧ NRuns W v r ∧ Can r ∧ valD r = vx ∧ Below w.heap.size w W := by
  have hlen : (o.take l).length = l := by rw [List.length_take]; omega
  have hget : ∀ j, j < l → (o.take l).getD j 0 = o.getD j 0 := fun j hj => by
    rw [List.getD_eq_getElem?_getD, List.getD_eq_getElem?_getD, List.getElem?_take, if_pos hj]
  refine ⟨_, o.take l, rfl, ⟨some ⟨g, 0, none⟩, L, by rw [hlen], by omega, ⟨hL, fun h => by cases h⟩, fun h0 => ⟨g, 0, rfl, (Array.getElem?_eq_some_iff.1 R).1, fun j hj => ?_⟩⟩, ⟨fun j => ?_, fun j hj => ?_⟩, by rw [valD_trim hz, HV], HB⟩
  · rw [Nat.zero_add, hget j (by omega)]
    exact R.cell j (by omega)
  · by_cases hj : j < l
    · rw [hget j hj]; exact HD j
    · rw [List.getD_eq_getElem?_getD, List.getElem?_eq_none (by omega)]; decide
  · rw [hget j (by omega)]
    exact hlast j (by omega)

set_option maxRecDepth 100000 in
set_option maxHeartbeats 4000000 in
theorem mul_any (u v : Value) (x y : List Nat) (w : World) (hx : NRuns w u x) (hy : NRuns w v y) (lx : x.length ≤ 40) (ly : y.length ≤ 40) (cx : ∀ j, x.getD j 0 < 10000) (cy : ∀ j, y.getD j 0 < 10000) :
    Calls Tryz.prog 64 #[u, v] w fun e w' => ∃ v l, e = .returned v ∧ NRuns w' v l ∧ Can l ∧ valD l = valD x * valD y ∧ Below w.heap.size w w' := by
  obtain ⟨A, c, rfl, hxc, ⟨hxm, _⟩, hxx⟩ := hx
  obtain ⟨B, d, rfl, hyc, ⟨hym, _⟩, hyy⟩ := hy
  unfold maxLen at hxm hym
  obtain ⟨n, hn⟩ : ∃ n, x.length = n := ⟨_, rfl⟩
  obtain ⟨m, hm⟩ : ∃ m, y.length = m := ⟨_, rfl⟩
  rw [hn] at hxc hxx lx ⊢
  rw [hm] at hyc hyy ly ⊢
  have HN := Lib.hid hn; clear hn
  have HMm := Lib.hid hm; clear hm
  have HX := Lib.hid hxx; clear hxx
  have HXC := Lib.hid cx; clear cx
  have HYC := Lib.hid cy; clear cy
  have HY := Lib.hid hyy; clear hyy
  obtain ⟨L, hL⟩ : ∃ L : Nat, (n : Int) + (m : Int) + 1 = (L : Int) := ⟨n + m + 1, by omega⟩
  have hL2 : L = n + m + 1 := by omega
  have HL := Lib.hid hL2; clear hL2
  have hmk := make_long w L (by have := HL.out; omega)
  go_enter Tryz.func64, Tryz.ntmps64
  go_wp2
  clear hmk
  obtain ⟨G, hG⟩ : ∃ G, G = w.heap.size := ⟨_, rfl⟩
  rw [← hG]
  have R0 : Hid (RowNL (w.alloc (.cells (cellsNL (List.replicate L 0)) 3)) G (List.replicate L 0)) := Lib.hid (by rw [hG]; exact heap_alloc_new w _)
  have B0 : Hid (Below G w (w.alloc (.cells (cellsNL (List.replicate L 0)) 3))) := Lib.hid ((Below.refl _ _).alloc (by omega) _)
  have HG := Lib.hid hG; clear hG
  go_loopg [18] n (fun g s18 wr => ∃ (i : Nat) (o : List Nat), s18 = .int .i64 i ∧ i ≤ n ∧ n - i ≤ g ∧ Hid (RowNL wr G o) ∧ Hid (o.length = L) ∧ Hid (Below G w wr) ∧ Hid (valD o = valD (x.take i) * valD y) ∧ Hid (capD o (200000000 * (i * m))))
  case atStart => exact ⟨0, _, rfl, by omega, by omega, R0, Lib.hid (by simp), B0, Lib.hid (by simp [valD_zeros, valD]), Lib.hid (fun j => by simp [List.getD_eq_getElem?_getD, List.getElem?_replicate]; split <;> simp)⟩
  case round =>
    clear R0 B0
    obtain ⟨i, o, rfl, hi, hg, R, HO, HB, HV, HCp⟩ := hrel
    by_cases hin : i < n
    · have hin' : (i : Int) < (n : Int) := by omega
      obtain ⟨bx, ox, rfl, hbx, hcx⟩ := HX.out (by omega)
      have hci := hcx i hin
      obtain ⟨a, ha⟩ : ∃ a, x.getD i 0 = a := ⟨_, rfl⟩
      rw [ha] at hci
      have HA := Lib.hid ha; clear ha
      have HCI := Lib.hid hci; clear hci hcx
      have ba : a < 10000 := by rw [← HA.out]; exact HXC.out i
      go_wp2
      go_loopg [23] m (fun g s23 wr => ∃ (k : Nat) (o : List Nat), s23 = .int .i64 k ∧ k ≤ m ∧ m - k ≤ g ∧ Hid (RowNL wr G o) ∧ Hid (o.length = L) ∧ Hid (Below G w wr) ∧ Hid (valD o = valD (x.take i) * valD y + 10000 ^ i * (a * valD (y.take k))) ∧ Hid (capD o (200000000 * (i * m + k))))
      case atStart => exact ⟨0, o, rfl, by omega, by omega, R, HO, HB, Lib.hid (by rw [HV.out]; simp [valD]), HCp⟩
      case round =>
        clear R HO HB HV HCp
        obtain ⟨k, o, rfl, hk, hg2, R, HO, HB, HV, HCp⟩ := hrel
        by_cases hkm : k < m
        · have hkm' : (k : Int) < (m : Int) := by omega
          obtain ⟨by', oy, rfl, hby, hcy⟩ := HY.out (by omega)
          have hck := hcy k hkm
          obtain ⟨b, hb⟩ : ∃ b, y.getD k 0 = b := ⟨_, rfl⟩
          rw [hb] at hck
          have HBk := Lib.hid hb; clear hb
          have bb : b < 10000 := by rw [← HBk.out]; exact HYC.out k
          have f1 : wr.cell? ⟨bx, ox + i, none⟩ = some (.int .i64 (a : Int)) := (HB.out.cell (show bx < G by have := HG.out; omega)).trans HCI.out
          have f2 : wr.cell? ⟨by', oy + k, none⟩ = some (.int .i64 (b : Int)) := (HB.out.cell (show by' < G by have := HG.out; omega)).trans hck
          clear hcy hck
          obtain ⟨p, hp⟩ : ∃ p : Nat, (i : Int) + (k : Int) = (p : Int) := ⟨i + k, by omega⟩
          have hpL : p + 1 < L := by have := HL.out; omega
          obtain ⟨op, hop⟩ : ∃ op, o.getD p 0 = op := ⟨_, rfl⟩
          obtain ⟨oq, hoq⟩ : ∃ oq, o.getD (p + 1) 0 = oq := ⟨_, rfl⟩
          have bim : i * m ≤ 40 * 40 := Nat.mul_le_mul (by omega) ly
          have bim2 : 200000000 * (i * m + k) ≤ 1000000000000 := by generalize i * m = z at bim ⊢; omega
          have bop : op ≤ 1000000000000 := by rw [← hop]; exact Nat.le_trans (HCp.out p) bim2
          have boq : oq ≤ 1000000000000 := by rw [← hoq]; exact Nat.le_trans (HCp.out (p + 1)) bim2
          have f3 : wr.cell? ⟨G, p, none⟩ = some (.int .i64 (op : Int)) := by rw [← hop]; exact R.out.cell p (by have := HO.out; omega)
          have f4 := R.out.frozen p
          obtain ⟨ab, hab⟩ : ∃ ab : Nat, (a : Int) * (b : Int) = (ab : Int) := ⟨a * b, by rw [Int.natCast_mul]⟩
          have bab : ab ≤ 9999 * 9999 := by
            have h1 : a * b ≤ 9999 * 9999 := Nat.mul_le_mul (by omega) (by omega)
            rw [← Int.natCast_mul] at hab
            omega
          clear bim bim2
          go_wp2
          have wrp : ∀ z : Int, 0 ≤ z → z ≤ 9000000000000000000 → IntKind.i64.wrap z = z := fun z h1 h2 => by rw [IntKind.wrap_i64]; omega
          obtain ⟨s, hs⟩ : ∃ s : Nat, s = op + ab := ⟨_, rfl⟩
          have w1 : IntKind.i64.wrap (p : Int) = (p : Int) := wrp _ (by omega) (by omega)
          have w2 : IntKind.i64.wrap (ab : Int) = (ab : Int) := wrp _ (by omega) (by omega)
          have w3 : IntKind.i64.wrap ((op : Int) + (ab : Int)) = (s : Int) := (wrp _ (by omega) (by omega)).trans (by omega)
          have hpL' : (p : Int) < (L : Int) := by omega
          have HS := Lib.hid hs; clear hs
          go_still_tail 16, (by kernel_rfl)
          change wpList _ _ _ _ _ wr.drew
          obtain ⟨w2, hw2⟩ : ∃ w2, w2 = wr.drew := ⟨_, rfl⟩
          have R2 : Hid (RowNL w2 G o) := Lib.hid (by rw [hw2]; exact R.out)
          have B2 : Hid (Below G w w2) := Lib.hid (by rw [hw2]; exact HB.out.drew)
          rw [← hw2]
          clear hw2 f1 f2 f3 f4
          have g1 : w2.cell? ⟨G, p, none⟩ = some (.int .i64 (op : Int)) := by rw [← hop]; exact R2.out.cell p (by have := HO.out; omega)
          have g2 := R2.out.frozen p
          go_wp2
          obtain ⟨w3, hw3⟩ : ∃ w3, w3 = w2.setCell ⟨G, p, none⟩ (.int .i64 (s : Int)) := ⟨_, rfl⟩
          have R3 : Hid (RowNL w3 G (o.set p s)) := Lib.hid (by rw [hw3]; exact R2.out.set p s)
          have B3 : Hid (Below G w w3) := Lib.hid (by rw [hw3]; exact B2.out.setCell (Nat.le_refl _) _)
          rw [← hw3]
          clear hw3 g1 g2 R2 B2
          obtain ⟨p1, hp1⟩ : ∃ p1 : Nat, (p : Int) + 1 = (p1 : Int) := ⟨p + 1, rfl⟩
          have hp1' : p1 = p + 1 := by omega
          obtain ⟨sq, hsq⟩ : ∃ sq : Nat, (s : Int) / 10000 = (sq : Int) := ⟨s / 10000, by omega⟩
          have hsq2 : Int.tdiv (s : Int) 10000 = (sq : Int) := by rw [← hsq]; exact Int.tdiv_eq_ediv_of_nonneg (by omega)
          obtain ⟨sr, hsr⟩ : ∃ sr : Nat, (s : Int) % 10000 = (sr : Int) := ⟨s % 10000, by omega⟩
          have hsr2 : Int.tmod (s : Int) 10000 = (sr : Int) := by rw [← hsr]; exact Int.tmod_eq_emod_of_nonneg (by omega)
          obtain ⟨t, ht⟩ : ∃ t : Nat, t = oq + sq := ⟨_, rfl⟩
          have bs : s ≤ 2000000000000 := by have := HS.out; omega
          have w4 : IntKind.i64.wrap (p1 : Int) = (p1 : Int) := wrp _ (by omega) (by omega)
          have w5 : IntKind.i64.wrap (sq : Int) = (sq : Int) := wrp _ (by omega) (by omega)
          have w6 : IntKind.i64.wrap ((oq : Int) + (sq : Int)) = (t : Int) := (wrp _ (by omega) (by omega)).trans (by omega)
          have w7 : IntKind.i64.wrap (sr : Int) = (sr : Int) := wrp _ (by omega) (by omega)
          have hp1L : (p1 : Int) < (L : Int) := by omega
          have HT := Lib.hid ht; clear ht
          have HQ : Hid (sq = s / 10000) := Lib.hid (by omega)
          have HSR : Hid (sr = s % 10000) := Lib.hid (by omega)
          have f5 : w3.cell? ⟨G, p, none⟩ = some (.int .i64 (s : Int)) := by
            have := R3.out.cell p (by rw [List.length_set]; have := HO.out; omega)
            rwa [getD_setL _ _ _ _ (by have := HO.out; omega), if_pos rfl] at this
          have f6 : w3.cell? ⟨G, p1, none⟩ = some (.int .i64 (oq : Int)) := by
            have := R3.out.cell p1 (by rw [List.length_set]; have := HO.out; omega)
            rwa [getD_setL _ _ _ _ (by have := HO.out; omega), if_neg (by omega), hp1', hoq, ← hp1'] at this
          have HP1 := Lib.hid hp1'; clear hp1'
          go_still_tail 15, (by kernel_rfl)
          change wpList _ _ _ _ _ w3.drew
          obtain ⟨w4', hw4⟩ : ∃ w2, w2 = w3.drew := ⟨_, rfl⟩
          have R4 : Hid (RowNL w4' G (o.set p s)) := Lib.hid (by rw [hw4]; exact R3.out)
          have B4 : Hid (Below G w w4') := Lib.hid (by rw [hw4]; exact B3.out.drew)
          have g1 : w4'.cell? ⟨G, p1, none⟩ = some (.int .i64 (oq : Int)) := by rw [hw4]; exact f6
          rw [← hw4]
          clear hw4 f5 f6 R3 B3
          have g2 := R4.out.frozen p1
          have R5 : Hid (RowNL (w4'.setCell ⟨G, p1, none⟩ (.int .i64 (t : Int))) G ((o.set p s).set p1 t)) := Lib.hid (R4.out.set p1 t)
          have B5 : Hid (Below G w (w4'.setCell ⟨G, p1, none⟩ (.int .i64 (t : Int)))) := Lib.hid (B4.out.setCell (Nat.le_refl _) _)
          have g3 : (w4'.setCell ⟨G, p1, none⟩ (.int .i64 (t : Int))).cell? ⟨G, p, none⟩ = some (.int .i64 (s : Int)) := by
            have := R5.out.cell p (by rw [List.length_set, List.length_set]; have := HO.out; omega)
            rwa [getD_setL _ _ _ _ (by rw [List.length_set]; have := HO.out; have := HP1.out; omega), if_neg (by have := HP1.out; omega), getD_setL _ _ _ _ (by have := HO.out; omega), if_pos rfl] at this
          have g4 := R5.out.frozen p
          go_wp2
          have HE : Hid (((o.set p s).set p1 t).set p sr = stepD o p ab) := Lib.hid (by
            have h1 := HS.out; have h2 := HT.out; have h3 := HQ.out; have h4 := HSR.out; have h5 := HP1.out
            rw [h5, h4, h2, h3, h1, ← hoq, ← hop, stepD, List.set_comm _ _ (by omega), List.set_set]
            exact List.set_comm _ _ (by omega))
          have hpik : p = i + k := by omega
          have habn : ab = a * b := by rw [← Int.natCast_mul] at hab; omega
          have hpo : p + 1 < o.length := by have := HO.out; omega
          go_roundg (m - (k + 1))
          case measure => omega
          case rel =>
            refine ⟨k + 1, stepD o p ab, rfl, by omega, by omega, Lib.hid ?_, Lib.hid ?_, Lib.hid (B5.out.setCell (Nat.le_refl _) _), Lib.hid ?_, Lib.hid ?_⟩
            · rw [← HE.out]; exact R5.out.set p sr
            · rw [stepD_length]; exact HO.out
            · rw [stepD_val o p ab hpo, HV.out, valD_take y k (by rw [HMm.out]; exact hkm), HBk.out, hpik, habn, Nat.pow_add, Nat.mul_add, Nat.mul_add, Nat.add_assoc]
              congr 2
              rw [Nat.mul_assoc, Nat.mul_left_comm a]
            · have h1 := stepD_cap hpo HCp.out (by have : i * m ≤ 40 * 40 := Nat.mul_le_mul (by omega) ly; generalize i * m = z at this ⊢; omega) (x := ab) (by omega)
              have e : 200000000 * (i * m + k) + 200000000 = 200000000 * (i * m + (k + 1)) := by omega
              rw [e] at h1
              exact h1
        · obtain rfl : k = m := by omega
          have HV2 : Hid (valD o = valD (x.take (i + 1)) * valD y) := Lib.hid (by
            rw [HV.out, valD_take x i (by rw [HN.out]; exact hin), HA.out, show y.take k = y from List.take_of_length_le (by rw [HMm.out]; exact Nat.le_refl _), Nat.add_mul, Nat.mul_assoc])
          have HC2 : Hid (capD o (200000000 * ((i + 1) * k))) := Lib.hid (by have := HCp.out; rwa [show i * k + k = (i + 1) * k by rw [Nat.succ_mul]] at this)
          clear HV HCp
          go_wp2
          go_roundg (n - (i + 1))
          case measure => omega
          case rel => exact ⟨i + 1, o, rfl, by omega, by omega, R, HO, HB, HV2, HC2⟩
    · obtain rfl : i = n := by omega
      have HV2 : Hid (valD o = valD x * valD y) := Lib.hid (by rw [HV.out, List.take_of_length_le (by rw [HN.out]; exact Nat.le_refl _)])
      have HC2 : Hid (capD o 400000000000) := Lib.hid (fun j => Nat.le_trans (HCp.out j) (by have : i * m ≤ 40 * 40 := Nat.mul_le_mul lx ly; generalize i * m = z at this ⊢; omega))
      clear HV HCp
      go_wp2
      clear hin
      go_loopg [8] L (fun g s8 wr => ∃ (i : Nat) (o : List Nat), s8 = .int .i64 i ∧ i + 1 ≤ L ∧ L - i ≤ g ∧ Hid (RowNL wr G o) ∧ Hid (o.length = L) ∧ Hid (Below G w wr) ∧ Hid (valD o = valD x * valD y) ∧ Hid (∀ j, j < i → o.getD j 0 < 10000) ∧ Hid (capD o (400000000000 + 200000000 * i)))
      case atStart => exact ⟨0, o, rfl, by have := HL.out; omega, by omega, R, HO, HB, HV2, Lib.hid (fun j hj => by omega), HC2⟩
      case round =>
        clear R HO HB HV2 HC2
        obtain ⟨p, o, rfl, hp, hg2, R, HO, HB, HV, HD, HCp⟩ := hrel
        by_cases hpL : p + 1 < L
        · obtain ⟨p1, hp1⟩ : ∃ p1 : Nat, (p : Int) + 1 = (p1 : Int) := ⟨p + 1, rfl⟩
          have hp1L : (p1 : Int) < (L : Int) := by omega
          have hpL' : (p : Int) < (L : Int) := by omega
          have bL : L ≤ 81 := by have := HL.out; omega
          obtain ⟨s, hs⟩ : ∃ s, o.getD p 0 = s := ⟨_, rfl⟩
          obtain ⟨oq, hoq⟩ : ∃ oq, o.getD (p + 1) 0 = oq := ⟨_, rfl⟩
          have bs : s ≤ 1000000000000 := by rw [← hs]; exact Nat.le_trans (HCp.out p) (by omega)
          have boq : oq ≤ 1000000000000 := by rw [← hoq]; exact Nat.le_trans (HCp.out (p + 1)) (by omega)
          have hp1' : p1 = p + 1 := by omega
          obtain ⟨sq, hsq⟩ : ∃ sq : Nat, (s : Int) / 10000 = (sq : Int) := ⟨s / 10000, by omega⟩
          have hsq2 : Int.tdiv (s : Int) 10000 = (sq : Int) := by rw [← hsq]; exact Int.tdiv_eq_ediv_of_nonneg (by omega)
          obtain ⟨sr, hsr⟩ : ∃ sr : Nat, (s : Int) % 10000 = (sr : Int) := ⟨s % 10000, by omega⟩
          have hsr2 : Int.tmod (s : Int) 10000 = (sr : Int) := by rw [← hsr]; exact Int.tmod_eq_emod_of_nonneg (by omega)
          obtain ⟨t, ht⟩ : ∃ t : Nat, t = oq + sq := ⟨_, rfl⟩
          have wrp : ∀ z : Int, 0 ≤ z → z ≤ 9000000000000000000 → IntKind.i64.wrap z = z := fun z h1 h2 => by rw [IntKind.wrap_i64]; omega
          have w4 : IntKind.i64.wrap (p1 : Int) = (p1 : Int) := wrp _ (by omega) (by omega)
          have w5 : IntKind.i64.wrap (sq : Int) = (sq : Int) := wrp _ (by omega) (by omega)
          have w6 : IntKind.i64.wrap ((oq : Int) + (sq : Int)) = (t : Int) := (wrp _ (by omega) (by omega)).trans (by omega)
          have w7 : IntKind.i64.wrap (sr : Int) = (sr : Int) := wrp _ (by omega) (by omega)
          have HT := Lib.hid ht; clear ht
          have HQ : Hid (sq = s / 10000) := Lib.hid (by omega)
          have HSR : Hid (sr = s % 10000) := Lib.hid (by omega)
          have f5 : wr.cell? ⟨G, p, none⟩ = some (.int .i64 (s : Int)) := by rw [← hs]; exact R.out.cell p (by have := HO.out; omega)
          have f6 : wr.cell? ⟨G, p1, none⟩ = some (.int .i64 (oq : Int)) := by rw [← hoq, hp1']; exact R.out.cell (p + 1) (by have := HO.out; omega)
          have HP1 := Lib.hid hp1'; clear hp1'
          go_wp2
          go_still_tail 11, (by kernel_rfl)
          change wpList _ _ _ _ _ wr.drew
          obtain ⟨w4', hw4⟩ : ∃ w2, w2 = wr.drew := ⟨_, rfl⟩
          have R4 : Hid (RowNL w4' G o) := Lib.hid (by rw [hw4]; exact R.out)
          have B4 : Hid (Below G w w4') := Lib.hid (by rw [hw4]; exact HB.out.drew)
          have g1 : w4'.cell? ⟨G, p1, none⟩ = some (.int .i64 (oq : Int)) := by rw [hw4]; exact f6
          rw [← hw4]
          clear hw4 f5 f6 R HB
          have g2 := R4.out.frozen p1
          have R5 : Hid (RowNL (w4'.setCell ⟨G, p1, none⟩ (.int .i64 (t : Int))) G (o.set p1 t)) := Lib.hid (R4.out.set p1 t)
          have B5 : Hid (Below G w (w4'.setCell ⟨G, p1, none⟩ (.int .i64 (t : Int)))) := Lib.hid (B4.out.setCell (Nat.le_refl _) _)
          have g3 : (w4'.setCell ⟨G, p1, none⟩ (.int .i64 (t : Int))).cell? ⟨G, p, none⟩ = some (.int .i64 (s : Int)) := by
            have := R5.out.cell p (by rw [List.length_set]; have := HO.out; omega)
            rwa [getD_setL _ _ _ _ (by have := HO.out; have := HP1.out; omega), if_neg (by have := HP1.out; omega), hs] at this
          have g4 := R5.out.frozen p
          go_wp2
          have HE : Hid ((o.set p1 t).set p sr = stepD o p 0) := Lib.hid (by
            have h2 := HT.out; have h3 := HQ.out; have h4 := HSR.out; have h5 := HP1.out
            rw [h5, h4, h2, h3, ← hoq, ← hs]
            simp only [stepD, Nat.add_zero])
          have hpo : p + 1 < o.length := by have := HO.out; omega
          go_roundg (L - (p + 1))
          case measure => omega
          case rel =>
            refine ⟨p + 1, stepD o p 0, by go_num, by omega, by omega, Lib.hid ?_, Lib.hid ?_, Lib.hid (B5.out.setCell (Nat.le_refl _) _), Lib.hid ?_, Lib.hid ?_, Lib.hid ?_⟩
            · rw [← HE.out]; exact R5.out.set p sr
            · rw [stepD_length]; exact HO.out
            · rw [stepD_val o p 0 hpo, HV.out, Nat.mul_zero, Nat.add_zero]
            · intro j hj
              rw [stepD_getD o p 0 j hpo]
              split
              · exact Nat.mod_lt _ (by decide)
              · rw [if_neg (by omega)]; exact HD.out j (by omega)
            · have h1 := stepD_cap hpo HCp.out (by omega) (x := 0) (by omega)
              rwa [show 400000000000 + 200000000 * p + 200000000 = 400000000000 + 200000000 * (p + 1) by omega] at h1
        · have hpL' : ¬ ((p : Int) + 1 < (L : Int)) := by omega
          have HD2 : Hid (∀ j, o.getD j 0 < 10000) := Lib.hid (mul_small (n := i) (m := m) (L := L) HO.out (by have := HL.out; omega) HV.out (by have := valD_small HXC.out; rwa [HN.out] at this) (by have := valD_small HYC.out; rwa [HMm.out] at this) (fun j hj => HD.out j (by omega)))
          go_wp2
          clear HD HCp hpL hpL'
          go_loopg [5] L (fun g s5 wr' => ∃ (l : Nat), s5 = .slice (some ⟨G, 0, none⟩) l L ∧ l ≤ L ∧ l ≤ g ∧ Hid (∀ j, l ≤ j → o.getD j 0 = 0) ∧ wr' = wr)
          case atStart => exact ⟨L, rfl, Nat.le_refl _, Nat.le_refl _, Lib.hid (fun j hj => by rw [List.getD_eq_getElem?_getD, List.getElem?_eq_none (by have := HO.out; omega)]; rfl), rfl⟩
          case round =>
            obtain ⟨l, rfl, hl, hg3, HZ, rfl⟩ := hrel
            cases l with
            | zero =>
              go_wp2
              go_ret
              exact trim_end R.out HO.out HD2.out HV.out (HG.out ▸ HB.out) (Nat.zero_le _) (by have := HL.out; unfold maxLen; omega) HZ.out (fun j hj => by omega)
            | succ q =>
              obtain ⟨z, hz⟩ : ∃ z, o.getD q 0 = z := ⟨_, rfl⟩
              have f1 : wr.cell? ⟨G, q, none⟩ = some (.int .i64 (z : Int)) := by rw [← hz]; exact R.out.cell q (by have := HO.out; omega)
              have i1 : (0 : Int) < ((q + 1 : Nat) : Int) := by omega
              by_cases hz0 : z = 0
              · subst hz0
                go_wp2
                go_roundg q
                case measure => omega
                case rel => exact ⟨q, rfl, by omega, by omega, Lib.hid (fun j hj => by
                  by_cases e : j = q
                  · subst e; exact hz
                  · exact HZ.out j (by omega)), rfl⟩
              · have hz1 : ¬ (z : Int) = 0 := by omega
                go_wp2
                go_ret
                exact trim_end R.out HO.out HD2.out HV.out (HG.out ▸ HB.out) hl (by have := HL.out; unfold maxLen; omega) HZ.out (fun j hj => by
                  obtain rfl : j = q := by omega
                  rw [hz]; exact hz0)
end Go.Proofs.YtnognphjndpgkaaGreatDoor

/- The greater of two numbers by their digits, as errataref03.more tells it. -/
namespace Go.Proofs.YtnognphjndpgkaaGreatDoor
open Go.RowKit

set_option maxRecDepth 100000 in
set_option maxHeartbeats 4000000 in
theorem more_any (u v : Value) (x y : List Nat) (w : World) (hx : NRuns w u x) (hy : NRuns w v y) :
    Calls Tryz.prog 63 #[u, v] w fun e w' => e = .returned (.bool (moreD x y)) ∧ Below w.heap.size w w' := by
  obtain ⟨A, c, rfl, hxc, ⟨hxm, _⟩, hxx⟩ := hx
  obtain ⟨B, d, rfl, hyc, ⟨hym, _⟩, hyy⟩ := hy
  unfold maxLen at hxm hym
  have HM : Hid (moreD x y = if x.length = y.length then gtD x y x.length else decide (y.length < x.length)) := Lib.hid rfl
  obtain ⟨n, hn⟩ : ∃ n, x.length = n := ⟨_, rfl⟩
  obtain ⟨m, hm⟩ : ∃ m, y.length = m := ⟨_, rfl⟩
  rw [hn] at hxc hxx HM ⊢
  rw [hm] at hyc hyy HM ⊢
  clear hn hm
  have HX := Lib.hid hxx; clear hxx
  have HY := Lib.hid hyy; clear hyy
  by_cases h : n = m
  · subst h
    have HM2 := Lib.hid (HM.out.trans (if_pos rfl)); clear HM
    go_enter Tryz.func63, Tryz.ntmps63
    go_wp2
    go_loopg [5] n (fun g s5 wr => ∃ k q : Nat, k ≤ n ∧ k ≤ g ∧ s5 = .int .i64 ((k : Int) - 1) ∧ wr = w.drewN q ∧ Hid (moreD x y = gtD x y k))
    case atStart => exact ⟨n, 0, Nat.le_refl _, Nat.le_refl _, rfl, rfl, HM2⟩
    case round =>
      clear HM2
      obtain ⟨k, q, hkn, hg, rfl, rfl, HC⟩ := hrel
      cases k with
      | zero =>
        go_wp2
        go_ret
        exact ⟨ret_bool (by rw [HC.out]; rfl), below_draws (Below.refl _ _) _⟩
      | succ j =>
        obtain ⟨b, o, rfl, hb, hc1⟩ := HX.out (by omega)
        obtain ⟨b', o', rfl, hb', hc2⟩ := HY.out (by omega)
        have e1 := hc1 j (by omega)
        have e2 := hc2 j (by omega)
        clear hc1 hc2
        have HC2 : Hid (moreD x y = if x.getD j 0 = y.getD j 0 then gtD x y j else decide (y.getD j 0 < x.getD j 0)) := Lib.hid (HC.out.trans rfl)
        clear HC
        obtain ⟨p, hp⟩ : ∃ p, x.getD j 0 = p := ⟨_, rfl⟩
        obtain ⟨r, hr⟩ : ∃ r, y.getD j 0 = r := ⟨_, rfl⟩
        rw [hp, hr] at HC2
        rw [hp] at e1
        rw [hr] at e2
        clear hp hr
        have s5 : (((j + 1 : Nat) : Int) - 1) = (j : Int) := by omega
        rw [s5]
        clear s5
        have i1 : (j : Int) < (n : Int) := by omega
        by_cases e : p = r
        · subst e
          have HC3 := Lib.hid (HC2.out.trans (if_pos rfl)); clear HC2
          go_wp2
          go_quiet (fail)
          go_wp2
          go_roundg j
          case measure => omega
          case rel => exact ⟨j, _, by omega, by omega, by go_num, by first | rfl | rw [World.drewN_drewN], HC3⟩
        · have HC3 := Lib.hid (HC2.out.trans (if_neg e)); clear HC2
          have e' : ¬ (p : Int) = (r : Int) := by omega
          by_cases l : r < p
          · have l' : (r : Int) < (p : Int) := by omega
            go_wp2
            go_quiet (fail)
            go_wp2
            go_quiet (fail)
            go_wp2
            go_ret
            exact ⟨ret_bool (by rw [HC3.out]; simp [l]), below_draws (below_draws (below_draws (Below.refl _ _) _) _) _⟩
          · have l' : ¬ (r : Int) < (p : Int) := by omega
            go_wp2
            go_quiet (fail)
            go_wp2
            go_quiet (fail)
            go_wp2
            go_ret
            exact ⟨ret_bool (by rw [HC3.out]; simp [l]), below_draws (below_draws (below_draws (Below.refl _ _) _) _) _⟩
  · have HM2 := Lib.hid (HM.out.trans (if_neg h)); clear HM
    have h' : ¬ ((n : Int) = (m : Int)) := by omega
    go_enter Tryz.func63, Tryz.ntmps63
    go_wp2
    go_ret
    exact ⟨ret_bool (by rw [HM2.out]), Below.refl _ _⟩
end Go.Proofs.YtnognphjndpgkaaGreatDoor

/- A number's digits, as errataref03.of makes them. -/
namespace Go.Proofs.YtnognphjndpgkaaGreatDoor
open Go.RowKit

set_option maxRecDepth 100000 in
set_option maxHeartbeats 4000000 in
theorem of_any (n : Nat) (hn : n ≤ 2147483648) (w : World) :
    Calls Tryz.prog 91 #[.int .i64 n] w fun e w' => ∃ v l, e = .returned v ∧ NRuns w' v l ∧ Can l ∧ valD l = n ∧ Below w.heap.size w w' := by
  go_enter Tryz.func91, Tryz.ntmps91
  go_wp2
  go_loopg [0, 3] n (fun g s0 s3 wr => ∃ (m : Nat) (pre : List Nat), s0 = .int .i64 m ∧ m ≤ g ∧ pre.length + m ≤ n ∧
    Hid (wr.ownsRow w.heap.size 3 1 s3 pre.length (pre.map fun x : Nat => Value.int .i64 (x : Int))) ∧ Hid (Below w.heap.size w wr) ∧ Hid (valD pre + 10000 ^ pre.length * m = n) ∧ Hid (∀ j, pre.getD j 0 < 10000) ∧ Hid (m = 0 → ∀ j, j + 1 = pre.length → pre.getD j 0 ≠ 0))
  case atStart => exact ⟨n, [], rfl, Nat.le_refl _, by simp, Lib.hid (World.ownsRow_nil _ _ _ _), Lib.hid (Below.refl _ _), Lib.hid (by simp [valD]), Lib.hid (fun j => by simp), Lib.hid (fun _ j hj => by simp at hj)⟩
  case round =>
    obtain ⟨m, pre, rfl, hg, hlen, HO, HB, HV, HD, HZ⟩ := hrel
    by_cases h : m = 0
    · subst h
      go_wp2
      go_ret
      exact ⟨_, rfl, pre, NRuns.of_own HO.out, ⟨HD.out, HZ.out (by simp)⟩, by simpa using HV.out, HB.out⟩
    · have h' : (0 : Int) < (m : Int) := by omega
      obtain ⟨d, hd⟩ : ∃ d : Nat, (m : Int) % 10000 = (d : Int) := ⟨m % 10000, by omega⟩
      obtain ⟨q, hq⟩ : ∃ q : Nat, (m : Int) / 10000 = (q : Int) := ⟨m / 10000, by omega⟩
      have HM : Hid (m = d + 10000 * q ∧ d < 10000) := Lib.hid (by omega)
      obtain ⟨v2, w2, hrun, hown, hb2⟩ := append_oneL wr w.heap.size u3 pre.length _ HO.out d HB.out.size (by omega)
      have HR := Lib.hid hrun; clear hrun
      go_wp2_with (at_builtin; refine wpList_append_runL (.tmp 6) (.tmp 9) 108 _ _ _ _ HR.out rfl rfl rfl rfl ?_)
      go_roundg q
      case measure => have := HM.out; omega
      case rel =>
        have hm := HM.out
        refine ⟨q, pre ++ [d], rfl, Nat.le_refl _, by simp; omega, Lib.hid (by simpa using hown), Lib.hid (HB.out.trans hb2), Lib.hid ?_, Lib.hid ?_, Lib.hid ?_⟩
        · have hv := HV.out
          rw [valD_append, List.length_append, List.length_singleton, Nat.pow_succ, Nat.mul_assoc, Nat.add_assoc, ← Nat.mul_add]
          simp only [valD, Nat.mul_zero, Nat.add_zero]
          rw [← hm.1]
          exact hv
        · intro j
          rw [List.getD_eq_getElem?_getD, List.getElem?_append]
          split
          · have := HD.out j
            rwa [List.getD_eq_getElem?_getD] at this
          · cases hj : j - pre.length with
            | zero => simpa using hm.2
            | succ k => simp
        · intro hq0 j hj
          have : j = pre.length := by simp at hj; omega
          subst this
          simp
          omega
end Go.Proofs.YtnognphjndpgkaaGreatDoor

/- A power of a number, and how often a sixteenth of a doubling fits, as errataref03 tells them. -/
namespace Go.Proofs.YtnognphjndpgkaaGreatDoor
open Go.RowKit

theorem pow_next (j c : Nat) : 2 ^ j * c * 2 = 2 ^ (j + 1) * c := by rw [Nat.pow_succ, Nat.mul_right_comm]
theorem len40 {l : List Nat} (h : Can l) {n k : Nat} (hn : n ≤ 2147483648) (hk : k ≤ 16) (hv : valD l ≤ n ^ k) : l.length ≤ 40 := by
  have h1 : n ^ k ≤ 2147483648 ^ k := Nat.pow_le_pow_left hn _
  have h2 : 2147483648 ^ k ≤ 2147483648 ^ 16 := Nat.pow_le_pow_right (by decide) hk
  exact h.len (Nat.lt_of_le_of_lt (Nat.le_trans hv (Nat.le_trans h1 h2)) (by decide +kernel))

set_option maxRecDepth 100000 in
set_option maxHeartbeats 4000000 in
theorem sixteenth_any (n : Nat) (hn : n ≤ 2147483648) (w : World) :
    Calls Tryz.prog 62 #[.int .i64 n] w fun e w' => ∃ v l, e = .returned v ∧ NRuns w' v l ∧ Can l ∧ valD l = n ^ 16 ∧ Below w.heap.size w w' := by
  have HN := Lib.hid hn; clear hn
  have ho := of_any n HN.out
  go_enter Tryz.func62, Tryz.ntmps62
  go_wp2_with fail
  refine (ho _).mono ?_
  rintro e w1 ⟨v1, l1, rfl, r1, c1, e1, b1⟩
  have R1 := Lib.hid r1; clear r1
  have C1 := Lib.hid c1; clear c1
  have E1 := Lib.hid e1; clear e1
  have B1 := Lib.hid b1; clear b1
  clear ho
  go_wp2
  go_loopg [3, 4] 4 (fun g s3 s4 wr => ∃ (i : Nat) (l : List Nat), s4 = .int .i64 i ∧ i ≤ 4 ∧ 4 - i ≤ g ∧ Hid (NRuns wr s3 l) ∧ Hid (Can l) ∧ Hid (valD l = n ^ 2 ^ i) ∧ Hid (Below w.heap.size w wr))
  case atStart => exact ⟨0, l1, rfl, by omega, by omega, R1, C1, Lib.hid (by rw [E1.out]; simp), B1⟩
  case round =>
    clear R1 C1 E1 B1
    obtain ⟨i, l, rfl, hi, hg, R, C, E, B⟩ := hrel
    by_cases h : i < 4
    · have h' : (i : Int) < 4 := by omega
      have h2 : 2 ^ i ≤ 16 := Nat.le_trans (Nat.pow_le_pow_right (by decide) (show i ≤ 4 by omega)) (by decide)
      have hl := len40 C.out HN.out h2 (Nat.le_of_eq E.out)
      have hm := fun w' (hb : Below wr.heap.size wr w') => mul_any u3 u3 l l w' (R.out.below hb) (R.out.below hb) hl hl C.out.1 C.out.1
      have hm' := hm wr (Below.refl _ _)
      clear hm
      go_wp2_with fail
      refine hm'.mono ?_
      rintro e w2 ⟨v2, l2, rfl, r2, c2, e2, b2⟩
      have R2 := Lib.hid r2; clear r2
      have C2 := Lib.hid c2; clear c2
      have E2 := Lib.hid e2; clear e2
      have B2 := Lib.hid (B.out.trans (b2.mono B.out.size)); clear b2 hm'
      go_wp2
      go_roundg (4 - (i + 1))
      case measure => omega
      case rel => exact ⟨i + 1, l2, by go_num, by omega, by omega, R2, C2, Lib.hid (by rw [E2.out, E.out, ← Nat.pow_add, Nat.pow_succ]; congr 1; omega), B2⟩
    · obtain rfl : i = 4 := by omega
      go_wp2
      go_ret
      exact ⟨_, l, rfl, R.out, C.out, E.out, B.out⟩

set_option maxRecDepth 100000 in
set_option maxHeartbeats 4000000 in
theorem refRatio_ok (a b : Nat) (hb : 1 ≤ b) (hab : b ≤ a) (ha : a ≤ 2147483648) (w : World) :
    Calls Tryz.prog 42 #[.int .i64 a, .int .i64 b] w fun e w' => e = .returned (.tuple #[.int .i64 (rat a b), .int .i64 0]) ∧ Below w.heap.size w w' := by
  have t1 : decide ((b : Int) < 1) = false := decide_eq_false (by omega)
  have t2 : decide ((a : Int) < (b : Int)) = false := decide_eq_false (by omega)
  have t2' : decide (a < b) = false := decide_eq_false (by omega)
  have t3 : decide ((2147483648 : Int) < (a : Int)) = false := decide_eq_false (by omega)
  have g1 : ¬ ((b : Int) < 1) := by omega
  have g2 : ¬ ((a : Int) < (b : Int)) := by omega
  have g3 : ¬ ((2147483648 : Int) < (a : Int)) := by omega
  have HB := Lib.hid hb; clear hb
  have HAB := Lib.hid hab; clear hab
  have HA := Lib.hid ha; clear ha
  have sa := sixteenth_any a HA.out
  have sb := sixteenth_any b (Nat.le_trans HAB.out HA.out)
  go_enter Tryz.func42, Tryz.ntmps42
  go_wp2_with fail
  refine (sa _).mono ?_
  rintro e w1 ⟨v1, l1, rfl, r1, c1, e1, b1⟩
  have R1 := Lib.hid r1; clear r1
  have C1 := Lib.hid c1; clear c1
  have E1 := Lib.hid e1; clear e1
  have B1 := Lib.hid b1; clear b1
  go_wp2_with fail
  refine (sb _).mono ?_
  rintro e w2 ⟨v2, l2, rfl, r2, c2, e2, b2⟩
  have R1' := Lib.hid (R1.out.below b2)
  have R2 := Lib.hid r2; clear r2 R1
  have C2 := Lib.hid c2; clear c2
  have E2 := Lib.hid e2; clear e2
  have B2 := Lib.hid (B1.out.trans (b2.mono B1.out.size)); clear b2 B1
  clear sa sb
  go_wp2
  go_loopg [7, 8] 498 (fun g s7 s8 wr => ∃ (j : Nat) (l : List Nat), s8 = .int .i64 ((j : Int) - 1) ∧ j ≤ 497 ∧ 498 - j ≤ g ∧ Hid (NRuns wr s7 l) ∧ Hid (NRuns wr v1 l1) ∧ Hid (Can l) ∧ Hid (valD l = 2 ^ j * b ^ 16) ∧ Hid (∀ i, i + 1 = j → 2 ^ i * b ^ 16 ≤ a ^ 16) ∧ Hid (Below w.heap.size w wr))
  case atStart => exact ⟨0, l2, rfl, by omega, by omega, R2, R1', C2, Lib.hid (by rw [E2.out]; simp), Lib.hid (fun i hi => by omega), B2⟩
  case round =>
    clear R1' R2 C2 E2 B2
    obtain ⟨j, l, rfl, hj, hg, R, R1, C, E, HI, B⟩ := hrel
    have hx := more_any u7 v1 l l1 wr R.out R1.out
    have HM : Hid (moreD l l1 = decide (a ^ 16 < 2 ^ j * b ^ 16)) := Lib.hid (by rw [moreD_iff C.out C1.out, E.out, E1.out])
    obtain ⟨t, ht⟩ : ∃ t, moreD l l1 = t := ⟨_, rfl⟩
    rw [ht] at HM
    rw [ht] at hx
    clear ht
    go_wp2_with fail
    refine hx.mono ?_
    rintro e w3 ⟨rfl, b3⟩
    have R' := Lib.hid (R.out.below b3)
    have R1' := Lib.hid (R1.out.below b3)
    have B3 := Lib.hid (B.out.trans (b3.mono B.out.size))
    clear b3 hx R R1 B
    cases t with
    | true =>
      have hlt := of_decide_eq_true HM.out.symm
      have hj0 : j ≠ 0 := by
        intro h0
        rw [h0, Nat.pow_zero, Nat.one_mul] at hlt
        exact Nat.not_le.2 hlt (Nat.pow_le_pow_left HAB.out 16)
      obtain ⟨i, rfl⟩ : ∃ i, j = i + 1 := ⟨j - 1, by omega⟩
      have HR : Hid (rat a b = i) := Lib.hid (rat_eq HB.out HAB.out (HI.out i rfl) hlt)
      clear hlt hj0
      go_wp2
      go_ret2
      exact ⟨by rw [HR.out]; congr 4; first | done | omega, B3.out⟩
    | false =>
      have HE : Hid (2 ^ j * b ^ 16 ≤ a ^ 16) := Lib.hid (Nat.not_lt.1 (of_decide_eq_false HM.out.symm))
      have hj2 : j ≤ 496 := Nat.le_trans ((le_rat HB.out HAB.out).2 HE.out) (rat_bound HB.out HAB.out HA.out)
      have hl := len40 C.out (k := 16) HA.out (Nat.le_refl _) (by rw [E.out]; exact HE.out)
      have hba : Below w3.heap.size w3 (w3.alloc (.cells #[.int .i64 2] 3)) := (Below.refl _ _).alloc (Nat.le_refl _) _
      have hm := mul_any u7 (.slice (some ⟨w3.heap.size, 0, none⟩) 1 1) l [2] (w3.alloc (.cells #[.int .i64 2] 3)) (R'.out.below hba) (nruns_lit w3 2) hl (by simp) C.out.1 (fun j => by cases j <;> simp)
      have HBA := Lib.hid hba; clear hba
      go_wp2_with fail
      refine hm.mono ?_
      rintro e w4 ⟨v4, l4, rfl, r4, c4, e4, b4⟩
      have hb4 : Below w3.heap.size w3 w4 := HBA.out.trans (b4.mono HBA.out.size)
      have R4 := Lib.hid r4; clear r4
      have C4 := Lib.hid c4; clear c4
      have E4 := Lib.hid e4; clear e4
      have R5 := Lib.hid (R1'.out.below hb4)
      have B4 := Lib.hid (B3.out.trans (hb4.mono B3.out.size)); clear hb4 b4 hm HBA
      go_wp2
      go_roundg (498 - (j + 1))
      case measure => omega
      case rel => exact ⟨j + 1, l4, by go_num, by omega, by omega, R4, R5, C4, Lib.hid (by rw [E4.out, E.out]; exact pow_next j (b ^ 16)), Lib.hid (fun i hi => by obtain rfl : i = j := (by omega); exact HE.out), B4⟩

set_option maxRecDepth 100000 in
set_option maxHeartbeats 4000000 in
theorem refRatio_err (a b : Int) (h : b < 1 ∨ a < b ∨ 2147483648 < a) (w : World) :
    Calls Tryz.prog 42 #[.int .i64 a, .int .i64 b] w fun e w' => e = .returned (.tuple #[.int .i64 0, .int .i64 2]) ∧ Below w.heap.size w w' := by
  by_cases h1 : b < 1
  · go_enter Tryz.func42, Tryz.ntmps42
    go_wp2
    go_ret2
    exact ⟨rfl, Below.refl _ _⟩
  · by_cases h2 : a < b
    · go_enter Tryz.func42, Tryz.ntmps42
      go_wp2
      go_ret2
      exact ⟨rfl, Below.refl _ _⟩
    · have h3 : 2147483648 < a := by omega
      clear h
      go_enter Tryz.func42, Tryz.ntmps42
      go_wp2
      go_ret2
      exact ⟨rfl, Below.refl _ _⟩
end Go.Proofs.YtnognphjndpgkaaGreatDoor

/- The document's Cost. -/
namespace Go.Proofs.YtnognphjndpgkaaGreatDoor
open Go.RowKit

set_option maxRecDepth 100000 in
set_option maxHeartbeats 4000000 in
theorem refCost_ok (t k n : Nat) (ht : t ≤ 1073741824) (hk1 : 1 ≤ k) (hk : k ≤ 4096) (hn : n ≤ t) (w : World) :
    Calls Tryz.prog 25 #[.int .i64 t, .int .i64 k, .int .i64 n] w fun e w' => e = .returned (.tuple #[.int .i64 (costN t k n), .int .i64 0]) ∧ Below w.heap.size w w' := by
  have hr := refRatio_ok (t + k) (n + 1) (by omega) (by omega) (by omega)
  obtain ⟨r, hr0⟩ : ∃ r, rat (t + k) (n + 1) = r := ⟨_, rfl⟩
  have hr2 : r ≤ 496 := by rw [← hr0]; exact rat_bound (by omega) (by omega) (by omega)
  rw [hr0] at hr
  have HC : Hid (costN t k n = min (max r 1) 255) := Lib.hid (by rw [costN, hr0])
  clear hr0
  have t1 : decide ((t : Int) < 0) = false := decide_eq_false (by omega)
  have t2 : decide ((1073741824 : Int) < (t : Int)) = false := decide_eq_false (by omega)
  have t3 : decide ((k : Int) < 1) = false := decide_eq_false (by omega)
  have t4 : decide ((4096 : Int) < (k : Int)) = false := decide_eq_false (by omega)
  have t5 : decide ((n : Int) < 0) = false := decide_eq_false (by omega)
  have t6 : decide ((t : Int) < (n : Int)) = false := decide_eq_false (by omega)
  have t6' : decide (t < n) = false := decide_eq_false (by omega)
  go_enter Tryz.func25, Tryz.ntmps25
  go_wp2_with fail
  refine (hr _).mono ?_
  rintro e w1 ⟨rfl, b1⟩
  have B1 := Lib.hid b1; clear b1
  by_cases c1 : r < 1
  · have e0 : r = 0 := by omega
    subst e0
    go_wp2
    go_ret2
    exact ⟨by rw [HC.out]; rfl, B1.out⟩
  · by_cases c2 : 255 < r
    · have c1' : ¬ ((r : Int) < 1) := by omega
      have c2' : (255 : Int) < (r : Int) := by omega
      go_wp2
      go_ret2
      exact ⟨by rw [HC.out, show min (max r 1) 255 = 255 by omega]; first | rfl | exact (show Ending.returned (Value.tuple #[.int .i64 (max 1 (min 255 (r : Int))), .int .i64 0]) = _ from by rw [show max 1 (min 255 (r : Int)) = ((255 : Nat) : Int) by omega]), B1.out⟩
    · have c1' : ¬ ((r : Int) < 1) := by omega
      have c2' : ¬ ((255 : Int) < (r : Int)) := by omega
      have c3 : (1 : Int) ≤ (r : Int) := by omega
      by_cases c4 : r = 1
      · subst c4
        go_wp2
        go_ret2
        exact ⟨by rw [HC.out]; rfl, B1.out⟩
      · by_cases c5 : r = 255
        · subst c5
          go_wp2
          go_ret2
          exact ⟨by rw [HC.out]; rfl, B1.out⟩
        · have c6 : (1 : Int) < (r : Int) := by omega
          have c7 : (r : Int) < 255 := by omega
          go_wp2
          go_ret2
          exact ⟨by rw [HC.out, show min (max r 1) 255 = r by omega]; first | rfl | exact (show Ending.returned (Value.tuple #[.int .i64 (max 1 (min 255 (r : Int))), .int .i64 0]) = _ from by rw [show max 1 (min 255 (r : Int)) = ((r : Nat) : Int) by omega]), B1.out⟩

set_option maxRecDepth 100000 in
set_option maxHeartbeats 4000000 in
theorem refCost_err (t k n : Int) (h : t < 0 ∨ 1073741824 < t ∨ k < 1 ∨ 4096 < k ∨ n < 0 ∨ t < n) (w : World) :
    Calls Tryz.prog 25 #[.int .i64 t, .int .i64 k, .int .i64 n] w fun e w' => e = .returned (.tuple #[.int .i64 0, .int .i64 2]) ∧ w' = w := by
  by_cases h1 : t < 0
  · go_enter Tryz.func25, Tryz.ntmps25
    go_wp2
    go_ret2
    exact ⟨rfl, rfl⟩
  by_cases h2 : 1073741824 < t
  · go_enter Tryz.func25, Tryz.ntmps25
    go_wp2
    go_ret2
    exact ⟨rfl, rfl⟩
  by_cases h3 : k < 1
  · go_enter Tryz.func25, Tryz.ntmps25
    go_wp2
    go_ret2
    exact ⟨rfl, rfl⟩
  by_cases h4 : 4096 < k
  · go_enter Tryz.func25, Tryz.ntmps25
    go_wp2
    go_ret2
    exact ⟨rfl, rfl⟩
  by_cases h5 : n < 0
  · go_enter Tryz.func25, Tryz.ntmps25
    go_wp2
    go_ret2
    exact ⟨rfl, rfl⟩
  · have h6 : t < n := by omega
    clear h
    go_enter Tryz.func25, Tryz.ntmps25
    go_wp2
    go_ret2
    exact ⟨rfl, rfl⟩

end Go.Proofs.YtnognphjndpgkaaGreatDoor

/- errataref07.Find, Make: what each answers. -/
namespace Go.Proofs.YtnognphjndpgkaaGreatDoor
open Go.RowKit Go.Shelf
set_option linter.unusedSimpArgs false
set_option linter.unusedVariables false

theorem lst_key {l : List Blk} {a b : Blk} (h : sameS a b) : lst l a = lst l b := by
  induction l with
  | nil => rfl
  | cons x l ih =>
    rw [lst_cons, lst_cons, ih]
    by_cases h1 : sameS x a
    · rw [if_pos h1, if_pos ⟨h1.1.trans h.1, h1.2.trans h.2⟩]
    · rw [if_neg h1, if_neg (fun e => h1 ⟨e.1.trans h.1.symm, e.2.trans h.2.symm⟩)]
set_option maxRecDepth 100000 in
set_option maxHeartbeats 8000000 in
theorem refMake_any (u : Value) (l : List Blk) (least : Int) (w : World) (hu : BRuns w u l) (hl : l.length ≤ 1000000) (hz : szB l) :
    Calls Tryz.prog 12 #[u, .int .i64 least] w fun e w' => ∃ v, e = .returned (.tuple #[v, .int .i64 (mkE l least)]) ∧ BRuns w' v (mkS l least) ∧ Below w.heap.size w w' := by
  have ct := refCheck6_any u l w hu hl hz
  obtain ⟨A, c, e⟩ := hu.slice
  subst e
  have hE : mkE l least = if chkT l = 0 then (if least < 1 ∨ 1073741824 < least then 2 else 0) else chkT l := rfl
  have hS : mkS l least = if mkE l least = 0 then mkR l least else [] := rfl
  have hF : chkT l = 0 → posN l ∧ l.length ≤ 4096 ∧ sumN l ≤ 1073741824 ∧ ∀ w, BRuns w (.slice A l.length c) l → Calls Tryz.prog 26 #[.slice A l.length c] w fun e w' => e = .returned (.int .i64 (sumN l)) ∧ Below w.heap.size w w' := fun h => by
    obtain ⟨h1, _, h3, h4⟩ := chkT_facts h
    exact ⟨posN_of h1, h3, h4, fun w hu => refSum_any _ l w hu hl (okN_of h1)⟩
  obtain ⟨ea, hea⟩ : ∃ z, chkT l = z := ⟨_, rfl⟩
  obtain ⟨er, her⟩ : ∃ z, mkE l least = z := ⟨_, rfl⟩
  obtain ⟨Y, hY⟩ : ∃ z, mkS l least = z := ⟨_, rfl⟩
  obtain ⟨T, hT⟩ : ∃ z, sumN l = z := ⟨_, rfl⟩
  rw [her] at hE hS ⊢
  rw [hY] at hS ⊢
  rw [hea] at hE ct hF
  simp only [hT] at hF
  obtain ⟨n, hn⟩ : ∃ n, l.length = n := ⟨_, rfl⟩
  rw [hn] at ct hl hu ⊢
  simp only [hn] at hF
  have CT := Lib.hid ct; have HN := Lib.hid hn; have HU := Lib.hid hu; have HE := Lib.hid hE; have HS := Lib.hid hS; have HF := Lib.hid hF; have HT := Lib.hid hT
  clear ct hn hu hz hE hS hF hea her hY hT
  go_enter Tryz.func12, Tryz.ntmps12
  go_wp2_with fail
  refine CT.out.mono ?_
  rintro e w1 ⟨rfl, b1⟩
  have B1 := Lib.hid b1
  clear b1 CT
  by_cases h0 : ea = 0
  · subst h0
    obtain ⟨t2, t3, t4, t5⟩ := HF.out (by first | rfl | trivial)
    have CSUM := Lib.hid t5; clear t5
    by_cases h1 : least < 1
    · have hEr : er = 2 := by rw [HE.out, if_pos (by first | rfl | trivial), if_pos (.inl h1)]
      subst hEr
      have hYs : Hid (Y = []) := Lib.hid (by rw [HS.out]; simp)
      clear t2
      go_wp2
      go_ret2
      exact ⟨_, rfl, by rw [hYs.out]; exact GRuns.nil_ _ _ _, B1.out⟩
    by_cases h2 : 1073741824 < least
    · have hEr : er = 2 := by rw [HE.out, if_pos (by first | rfl | trivial), if_pos (.inr h2)]
      subst hEr
      have hYs : Hid (Y = []) := Lib.hid (by rw [HS.out]; simp)
      clear t2
      go_wp2
      go_ret2
      exact ⟨_, rfl, by rw [hYs.out]; exact GRuns.nil_ _ _ _, B1.out⟩
    have hEr : er = 0 := by rw [HE.out, if_pos (by first | rfl | trivial), if_neg (by omega)]
    subst hEr
    have hYs : Hid (Y = mkR l least) := Lib.hid (by rw [HS.out]; simp)
    have hpos := sumN_nonneg (l := l) t2
    have eT := HT.out
    obtain ⟨t, ht⟩ : ∃ t : Nat, T = (t : Int) := ⟨T.toNat, by omega⟩
    subst ht
    have HM := Lib.hid (fun b hb => mem_sumN t2 b hb)
    have htn : (sumN l).toNat = t := by omega
    have ht1 : t ≤ 1073741824 := by omega
    have HT2 := Lib.hid t2; have HTN := Lib.hid htn; have HET := Lib.hid eT
    clear t2 t4 hpos htn HE HS HF eT
    have HG : Hid (∀ (N3 : Nat) (a b : ByteArray), ruleB l (a, b, (N3 : Int)) = (a, b, ((costN t n N3 : Nat) : Int))) := Lib.hid (fun N3 a b => by
      show (a, b, ((costK (sumN l).toNat l.length (N3 : Int).toNat : Nat) : Int)) = _
      rw [HTN.out, HN.out, Int.toNat_natCast]; rfl)
    have CO := Lib.hid refCost_ok
    go_wp2
    go_loopw [7, 25] (fun s8 s29 wr => ∃ k : Nat, k ≤ n ∧ s29 = .int .i64 k ∧ Hid (wr.ownsRow w.heap.size 37 3 s8 (mkK l least k).length (gCells blkCell (mkK l least k))) ∧ Hid (Below w.heap.size w wr)) (fun _ s29 _ => n - (RowKit.intOf s29).toNat)
    case atStart => exact ⟨0, Nat.zero_le _, rfl, Lib.hid (by rw [mkK_zero]; exact World.ownsRow_nil _ _ _ _), B1⟩
    case round =>
      obtain ⟨k, hkn, rfl, HO, BW⟩ := hrel
      by_cases hk : k < n
      · have k1 : (k : Int) < (n : Int) := by omega
        obtain ⟨⟨p1, p2, p3⟩, hp⟩ : ∃ p, l[k]? = some p := ⟨_, List.getElem?_eq_getElem (by rw [HN.out]; exact hk)⟩
        obtain ⟨b, o, rfl, _, hc⟩ := (HU.out.below BW.out).cells HN.out (by omega)
        obtain ⟨g0, g1, g2⟩ := blk_cells hc hp
        simp only at g0 g1 g2
        have hm := HM.out _ (List.mem_of_getElem? hp)
        have hps := HT2.out _ (List.mem_of_getElem? hp)
        have hnx := mkK_next least k _ hp
        simp only at hm hps hnx
        have e1 := HET.out
        obtain ⟨N3, hN3⟩ : ∃ N3 : Nat, p3 = (N3 : Int) := ⟨p3.toNat, by omega⟩
        subst hN3
        have hNt : N3 ≤ t := by omega
        rw [HG.out] at hnx
        have hln := mkK_len l least k
        obtain ⟨M, hM⟩ : ∃ z, mkK l least k = z := ⟨_, rfl⟩
        rw [hM] at hnx hln HO
        obtain ⟨m, hmm⟩ : ∃ z, M.length = z := ⟨_, rfl⟩
        rw [hmm] at hln HO
        have GR := GRuns.of_own rl_ln hmm HO.out
        obtain ⟨A3, c3, e3⟩ := GR.slice
        rw [hmm] at e3
        subst e3
        have HNX := Lib.hid hnx; have HMM := Lib.hid hmm
        have hal := blw_one wr (.cells #[.string p1, .string p2, .int .i64 (N3 : Int)] 34)
        obtain ⟨x0, x1, x2⟩ := cells3_new wr (.string p1) (.string p2) (.int .i64 (N3 : Int)) 34
        have hltb : wr.heap.size < (wr.alloc (.cells #[.string p1, .string p2, .int .i64 (N3 : Int)] 34)).heap.size := by simp
        obtain ⟨wa, hwa⟩ : ∃ z, wr.alloc (.cells #[.string p1, .string p2, .int .i64 (N3 : Int)] 34) = z := ⟨_, rfl⟩
        rw [hwa] at hal x0 x1 x2 hltb
        obtain ⟨bx, hbx⟩ : ∃ z, wr.heap.size = z := ⟨_, rfl⟩
        rw [hbx] at x0 x1 x2 hltb
        have BA : Hid (Below w.heap.size w wa) := Lib.hid (BW.out.trans (hal.mono BW.out.size))
        have OA : Hid (wa.ownsRow w.heap.size 37 3 (.slice A3 m c3) m (gCells blkCell M)) := Lib.hid (own_below HO.out hal)
        have HWA := Lib.hid hwa; have HBX := Lib.hid hbx
        clear hc hp hm hps hnx hM hmm GR hal hwa hbx HO e1
        by_cases hlt : (N3 : Int) < least
        · have hnew : Hid (mkK l least (k + 1) = M) := Lib.hid (HNX.out.1 hlt)
          clear HNX
          go_wp2
          rw [HWA.out]
          exact ⟨⟨k + 1, by omega, by go_num, Lib.hid (by rw [hnew.out, HMM.out]; exact OA.out), BA⟩, by simp [RowKit.intOf]; omega⟩
        · have hnew : Hid (mkK l least (k + 1) = M ++ [(p1, p2, ((costN t n N3 : Nat) : Int))]) := Lib.hid (HNX.out.2 hlt)
          have cc := fun w => CO.out t n N3 ht1 (by omega) t3 hNt w
          obtain ⟨cs, hcs⟩ : ∃ z, costN t n N3 = z := ⟨_, rfl⟩
          simp only [hcs] at cc
          rw [hcs] at hnew
          have C := Lib.hid cc
          have RU : Hid (BRuns wa (.slice (some ⟨b, o, none⟩) n c) l) := Lib.hid (HU.out.below BA.out)
          have KD : Hid (BoxK wa bx (p1, p2, (N3 : Int)) wa.drew) := Lib.hid ⟨x0, x1, x2, hltb, (Below.refl _ _).drew⟩
          have hge : least ≤ (N3 : Int) := by omega
          clear HNX cc hcs
          go_wp2
          rw [HWA.out, HBX.out]
          go_region_held3 (fun w' => w'.cell? ⟨bx, 2, none⟩ = some (.int .i64 (N3 : Int)) ∧ Hid (BoxK wa bx (p1, p2, (N3 : Int)) w'))
            (first | exact ⟨x2, KD⟩ | exact ⟨HKn.out.b2, HKn⟩ | go_keep)
            (first
              | (go_at_call 26; refine (CSUM.out _ (RU.out.below (by assumption : Hid (BoxK wa bx (p1, p2, (N3 : Int)) _)).out.bel)).mono ?_; rintro e w4 ⟨rfl, hb4⟩; have HKn := Lib.hid ((by assumption : Hid (BoxK wa bx (p1, p2, (N3 : Int)) _)).out.step hb4); clear hb4)
              | (go_at_call 25; refine (C.out _).mono ?_; rintro e w5 ⟨rfl, hb5⟩; have HKn := Lib.hid ((by assumption : Hid (BoxK wa bx (p1, p2, (N3 : Int)) _)).out.step hb5); clear hb5))
          rename_i hHeld
          clear hHeld
          have b5 : Below wa.heap.size wa w5 := HKn.out.bel
          have y0 := (b5.cell (p := ⟨bx, 0, none⟩) hltb).trans x0
          have y1 := (b5.cell (p := ⟨bx, 1, none⟩) hltb).trans x1
          have B5 : Below w.heap.size w w5 := BA.out.trans (b5.mono BA.out.size)
          have O5 := own_below OA.out b5
          obtain ⟨v', w6, hrun, o6, g6, at6⟩ := append_one (P := Tryz.prog) rl_ln rl_one info_rule rfl (by decide) (by decide) Tryz.underlying26 w5 w.heap.size _ m _ O5 (p1, p2, ((cs : Nat) : Int)) B5.size (by omega)
          have B6 : Hid (Below w.heap.size w w6) := Lib.hid ((B5.alloc B5.size _).grown g6 (by simp; exact Nat.le_succ_of_le B5.size) (fun k hk => (O5.lt k hk).1))
          have O6 : Hid (w6.ownsRow w.heap.size 37 3 v' (mkK l least (k + 1)).length (gCells blkCell (mkK l least (k + 1)))) := Lib.hid (by
            rw [hnew.out, List.length_append, HMM.out, gCells_append]
            simpa [gCells] using o6)
          have hrun' : (Builtin.append_ #[26, 26] 26 #[.slice A3 m c3, .slice (some ⟨w5.heap.size, 0, none⟩) 1 1]).run Tryz.prog (w5.alloc (.cells #[.string p1, .string p2, .int .i64 ((cs : Nat) : Int)] 37)) = .ok v' w6 := hrun
          have HRUN := Lib.hid hrun'
          clear b5 x0 x1 x2 g0 g1 g2 B5 O5 hrun hrun' o6 g6 at6 hnew
          go_wp2_with (at_builtin; refine wpList_append_run (.tmp 43) (.tmp 50) 26 _ _ _ _ HRUN.out rfl rfl rfl rfl ?_)
          exact ⟨⟨k + 1, by omega, by go_num, O6, B6⟩, by simp [RowKit.intOf]; omega⟩
      · obtain rfl : k = n := by omega
        have hall : mkK l least k = mkR l least := by rw [← HN.out]; exact mkK_all l least
        rw [hall] at HO
        have GR := Lib.hid (GRuns.of_own rl_ln rfl HO.out)
        clear HO hall
        go_wp2
        go_ret2
        exact ⟨_, rfl, by rw [hYs.out]; exact GR.out, BW.out⟩
  · have h0' : (ea == 0) = false := by simpa using h0
    have hEr : er = ea := by rw [HE.out, if_neg h0]
    subst hEr
    have hYs : Hid (Y = []) := Lib.hid (by rw [HS.out, if_neg h0])
    go_wp2
    go_ret2
    exact ⟨_, rfl, by rw [hYs.out]; exact GRuns.nil_ _ _ _, B1.out⟩
end Go.Proofs.YtnognphjndpgkaaGreatDoor

/- Rows of blocks or rules as a sort holds them. -/
namespace Go.Proofs.YtnognphjndpgkaaGreatDoor
open Go.RowKit Go.Shelf Go.Lib
open Go.Sort (grow heap_grow_old putRow mapBlock onCells SWO PermIn SortedIn HoldsK flatK get_flatK size_flatK)
set_option linter.unusedSimpArgs false
set_option linter.unusedVariables false

theorem heap_sortB {w : World} {g n : Nat} {d : Array Blk} {os : Array Obj} : w.grownBy (sortWorldK blkCell 3 w g 0 n d os) (some g) := by
  unfold sortWorldK Go.Sort.putRowK
  refine ⟨rfl, rfl, rfl, by simp, fun k hk hne => ?_⟩
  rw [heap_grow_old _ _ (by simpa using hk)]
  have : g ≠ k := fun e => hne (by rw [e])
  simp [putRow, mapBlock, Go.Sort.ahead, Array.getElem?_modify, this]
theorem flat_at (L : List Blk) (j : Nat) (hj : j < L.length * 3) : ∃ x, L[j / 3]? = some x ∧ (blkCell x)[j % 3]? = some (flatK blkCell 3 L.toArray)[j]! := by
  have hq : j / 3 < L.length := (Nat.div_lt_iff_lt_mul (by decide)).2 hj
  have hm : j % 3 < 3 := Nat.mod_lt _ (by decide)
  refine ⟨L[j / 3], List.getElem?_eq_getElem hq, ?_⟩
  rw [get_flatK _ _ _ _ (by simpa using hj)]
  have e : L.toArray[j / 3]! = L[j / 3] := by simp [hq]
  rw [e]
  have hl : j % 3 < (blkCell L[j / 3]).length := hm
  rw [List.getElem?_eq_getElem hl]
  simp [hl]
theorem holds_blks {w : World} {g n c : Nat} {L : List Blk} (hn : L.length = n) (h : GRuns blkCell 3 w (.slice (some ⟨g, 0, none⟩) n c) L) (hf : ∀ j, w.frozen? ⟨g, j, none⟩ = false) : HoldsK blkCell 3 w g 0 L.toArray := by
  intro j hj
  have hj' : j < L.length * 3 := by simpa using hj
  refine ⟨?_, hf _⟩
  obtain ⟨x, hx, hc⟩ := flat_at L j hj'
  obtain ⟨b, o, e, _, hcell⟩ := h.cells hn (by rw [← hn]; omega)
  have e := Option.some.inj e
  simp only [Addr.mk.injEq] at e
  obtain ⟨rfl, rfl, _⟩ := e
  have h1 := hcell _ x hx _ _ hc
  rw [show 0 + j / 3 * 3 + j % 3 = 0 + j by omega] at h1
  simpa using h1
theorem runs_holds {w : World} {g n c : Nat} {L : List Blk} (hn : L.length = n) (hc : n ≤ c) (hm : c ≤ maxLen) (hg : g < w.heap.size) (h : HoldsK blkCell 3 w g 0 L.toArray) : GRuns blkCell 3 w (.slice (some ⟨g, 0, none⟩) n c) L ∧ ∀ j, j < n * 3 → w.frozen? ⟨g, j, none⟩ = false := by
  subst hn
  refine ⟨⟨_, c, rfl, hc, ⟨hm, fun h => by cases h⟩, fun _ => ⟨g, 0, rfl, hg, fun j x hj i u hu => ?_⟩⟩, fun j hj => ?_⟩
  · have hi : i < 3 := (List.getElem?_eq_some_iff.1 hu).1
    have hjl : j < L.length := (List.getElem?_eq_some_iff.1 hj).1
    have hlt : j * 3 + i < L.length * 3 := by omega
    have h1 := (h (j * 3 + i) (by simpa using hlt)).1
    obtain ⟨x', hx', hc'⟩ := flat_at L (j * 3 + i) hlt
    rw [show (j * 3 + i) / 3 = j by omega] at hx'
    rw [show (j * 3 + i) % 3 = i by omega] at hc'
    rw [hj] at hx'
    obtain rfl := Option.some.inj hx'
    rw [hu] at hc'
    rw [← Option.some.inj hc'] at h1
    rw [← Nat.add_assoc] at h1
    simpa using h1
  · have := (h j (by simpa using hj)).2
    simpa using this

end Go.Proofs.YtnognphjndpgkaaGreatDoor

