/- A number that stands sixteen times in a product. -/
import Derived.Test.YtcffaemclmcknaaLWide
namespace Go.Proofs.Ytcffaemclmcknaa
open Go.RowKit

/-- Block b is a variable of eight words. -/
def RowW (w : World) (b : Nat) (c : Nat → Nat) : Prop := w.heap[b]? = some (.cells (wA c) 49)
theorem RowW.below {w w' : World} {b B : Nat} {c : Nat → Nat} (h : RowW w b c) (hb : Below B w w') (hB : b < B) : RowW w' b c := (hb.block b hB).trans h
theorem RowW.cells {w : World} {b : Nat} {c : Nat → Nat} (h : RowW w b c) :
    w.cell? ⟨b, 0, none⟩ = some (.int .u64 (c 0)) ∧ w.cell? ⟨b, 1, none⟩ = some (.int .u64 (c 1)) ∧ w.cell? ⟨b, 2, none⟩ = some (.int .u64 (c 2)) ∧ w.cell? ⟨b, 3, none⟩ = some (.int .u64 (c 3)) ∧
    w.cell? ⟨b, 4, none⟩ = some (.int .u64 (c 4)) ∧ w.cell? ⟨b, 5, none⟩ = some (.int .u64 (c 5)) ∧ w.cell? ⟨b, 6, none⟩ = some (.int .u64 (c 6)) ∧ w.cell? ⟨b, 7, none⟩ = some (.int .u64 (c 7)) := by
  have e : ∀ j, w.cell? ⟨b, j, none⟩ = (wA c)[j]? := fun j => cell_of_row w b j (wA c) _ (0, 0) h
  exact ⟨(e 0).trans rfl, (e 1).trans rfl, (e 2).trans rfl, (e 3).trans rfl, (e 4).trans rfl, (e 5).trans rfl, (e 6).trans rfl, (e 7).trans rfl⟩
/-- Eight words out of a variable, as the walk meets it. -/
theorem load8 {w : World} {b : Nat} {c : Nat → Nat} (h : RowW w b c) : (loadCellsFrom ⟨b, 0, none⟩ 0 8 #[]).run Try.prog w = .ok (wA c) w := by
  have := run_loadCells_list (P := Try.prog) w ⟨b, 0, none⟩ (wA c).toList (fun j v hv => by
    have hadd : (⟨b, 0, none⟩ : Addr).add j = ⟨b, j, none⟩ := by unfold Addr.add; split <;> simp_all
    rw [hadd, cell_of_row w b j (wA c) _ (0, 0) h]
    simpa using hv)
  simpa [loadCells, wA] using this
theorem row_new2 (w : World) (o : Obj) (c : Nat → Nat) : RowW ((w.alloc o).alloc (.cells (wA c) 49)) (w.heap.size + 1) c := by
  have := heap_alloc_new (w.alloc o) (.cells (wA c) 49)
  rw [World.size_alloc] at this
  exact this
theorem row_new1 (w : World) (o : Obj) (c : Nat → Nat) : RowW ((w.alloc (.cells (wA c) 49)).alloc o) w.heap.size c :=
  (Below.heap_alloc (w.alloc (.cells (wA c) 49)) o w.heap.size (by simp)).trans (heap_alloc_new w _)
/-- Eight words into a variable, as the walk meets it. -/
theorem store8 {w : World} {b : Nat} {c : Nat → Nat} (h : RowW w b c) (d : Nat → Nat) : (storeCells ⟨b, 0, none⟩ (wA d).toList 0).run Try.prog w = .ok () (w.setRow b (wA d)) := by
  have := run_storeCells_from (P := Try.prog) b 49 (wA d).toList 0 (wA c) w h (by simp [wA]) (fun v hv => by
    simp [wA] at hv
    rcases hv with rfl | rfl | rfl | rfl | rfl | rfl | rfl | rfl <;> rfl)
  simpa [wA] using this
theorem RowW.frozen {w : World} {b : Nat} {c : Nat → Nat} (h : RowW w b c) (j : Nat) : w.frozen? ⟨b, j, none⟩ = false := by
  have h' : w.heap[b]? = some (.cells (wA c) 49 (0, 0)) := h
  simp [World.frozen?, h']
/-- Eight stores, one behind the other. -/
def set8 (w : World) (b : Nat) (d : Nat → Nat) : World :=
  (((((((w.setCell ⟨b, 0, none⟩ (.int .u64 (d 0))).setCell ⟨b, 1, none⟩ (.int .u64 (d 1))).setCell ⟨b, 2, none⟩ (.int .u64 (d 2))).setCell ⟨b, 3, none⟩ (.int .u64 (d 3))).setCell ⟨b, 4, none⟩ (.int .u64 (d 4))).setCell ⟨b, 5, none⟩ (.int .u64 (d 5))).setCell ⟨b, 6, none⟩ (.int .u64 (d 6))).setCell ⟨b, 7, none⟩ (.int .u64 (d 7))
theorem set8_row {w : World} {b : Nat} {c : Nat → Nat} (h : RowW w b c) (d : Nat → Nat) : RowW (set8 w b d) b d := by
  have h' : w.heap[b]? = some (.cells (wA c) 49 (0, 0)) := h
  have st : ∀ {w : World} {cur : Array Value} (i : Nat) (v : Value), w.heap[b]? = some (.cells cur 49 (0, 0)) → (w.setCell ⟨b, i, none⟩ v).heap[b]? = some (.cells (cur.setIfInBounds i v) 49 (0, 0)) := by
    intro w cur i v hw
    rw [setCell_eq_setRow w b i cur _ (0, 0) v hw]
    exact setRow_heap w b cur _ _ (0, 0) hw
  have h0 := st 0 (.int .u64 (d 0)) h'
  have h1 := st 1 (.int .u64 (d 1)) h0
  have h2 := st 2 (.int .u64 (d 2)) h1
  have h3 := st 3 (.int .u64 (d 3)) h2
  have h4 := st 4 (.int .u64 (d 4)) h3
  have h5 := st 5 (.int .u64 (d 5)) h4
  have h6 := st 6 (.int .u64 (d 6)) h5
  have h7 := st 7 (.int .u64 (d 7)) h6
  have e : ((((((((wA c).setIfInBounds 0 (.int .u64 (d 0))).setIfInBounds 1 (.int .u64 (d 1))).setIfInBounds 2 (.int .u64 (d 2))).setIfInBounds 3 (.int .u64 (d 3))).setIfInBounds 4 (.int .u64 (d 4))).setIfInBounds 5 (.int .u64 (d 5))).setIfInBounds 6 (.int .u64 (d 6))).setIfInBounds 7 (.int .u64 (d 7)) = wA d := by simp [wA]
  rw [e] at h7
  exact h7
theorem set8_below {w : World} {b : Nat} {d : Nat → Nat} {B : Nat} {a : World} (h : Below B a w) (hb : B ≤ b) : Below B a (set8 w b d) :=
  (((((((h.setCell hb _).setCell hb _).setCell hb _).setCell hb _).setCell hb _).setCell hb _).setCell hb _).setCell hb _
theorem setRow_row {w : World} {b : Nat} {c : Nat → Nat} (h : RowW w b c) (d : Nat → Nat) : RowW (w.setRow b (wA d)) b d := setRow_heap w b (wA c) _ _ (0, 0) h
theorem setRow_row' {w : World} {b b' : Nat} {c : Nat → Nat} (h : RowW w b' c) (hb : b' ≠ b) (x : Array Value) : RowW (w.setRow b x) b' c := (setRow_other w b b' x hb).trans h
theorem setRow_below {w : World} {b B : Nat} {a : World} (h : Below B a w) (hb : B ≤ b) (x : Array Value) : Below B a (w.setRow b x) :=
  h.trans ⟨rfl, rfl, rfl, by simp, fun k hk => setRow_other w b k x (by omega)⟩

def oneW (k : Nat) : Nat := if k = 0 then 1 else 0
theorem isW_one : IsW oneW 1 := ⟨fun k => by unfold oneW; split <;> decide, by simp [valW, oneW]⟩

theorem pow_top {n k : Nat} (hn : n ≤ 2147483648) (hk : k + 1 ≤ 16) : n ^ k * n < topW 8 := by
  rw [← Nat.pow_succ]
  have h1 : n ^ (k + 1) ≤ 2147483648 ^ (k + 1) := Nat.pow_le_pow_left hn _
  have h2 : 2147483648 ^ (k + 1) ≤ 2147483648 ^ 16 := Nat.pow_le_pow_right (by decide) hk
  exact Nat.lt_of_le_of_lt (Nat.le_trans h1 h2) (by decide +kernel)

set_option maxRecDepth 100000 in
set_option maxHeartbeats 4000000 in
theorem power_any (n : Nat) (hn : n ≤ 2147483648) (w : World) :
    Calls Try.prog 21 #[.int .u64 n] w fun e w' => (∃ c, IsW c (n ^ 16) ∧ e = .returned (.agg (wA c))) ∧ Below w.heap.size w w' := by
  have HN := Lib.hid hn; clear hn
  go_enter Try.func21, Try.ntmps21
  go_wp2
  go_loopg [5] 16 (fun g s5 wr => ∃ (k : Nat) (c : Nat → Nat), k ≤ 16 ∧ 16 - k ≤ g ∧ s5 = .int .i64 k ∧ Hid (IsW c (n ^ k)) ∧ Hid (Below w.heap.size w wr) ∧ Hid (RowW wr (w.heap.size + 1) c) ∧ Hid (RowW wr w.heap.size fun _ => 0) ∧ Hid (w.heap.size + 2 ≤ wr.heap.size))
  case atStart => exact ⟨0, oneW, by omega, by omega, rfl, Lib.hid isW_one, Lib.hid (((Below.refl _ _).alloc (Nat.le_refl _) _).alloc (by simp) _), Lib.hid (row_new2 w _ oneW), Lib.hid (row_new1 w _ fun _ => 0), Lib.hid (by simp)⟩
  case round =>
    obtain ⟨k, c, hk, hg, rfl, HI, HB, HR, HR0, HS⟩ := hrel
    obtain ⟨r0, r1, r2, r3, r4, r5, r6, r7⟩ := HR.out.cells
    by_cases h : k < 16
    · have hk' : (k : Int) < 16 := by omega
      have ht := times_w HI.out n (by have := HN.out; omega)
      go_wp2_with fail
      refine (ht _).mono ?_
      rintro e w' ⟨rfl, hb'⟩
      have HB' := Lib.hid hb'
      have HR' := Lib.hid (HR.out.below hb' (by have := HS.out; omega))
      have HR0' := Lib.hid (HR0.out.below hb' (by have := HS.out; omega))
      clear hb'
      have hst := store8 HR'.out (dig c n)
      have hsz : (wA (dig c n)).size = 8 := rfl
      go_wp2
      go_roundg (16 - (k + 1))
      case measure => omega
      case rel => exact ⟨k + 1, dig c n, by omega, by omega, by go_num, Lib.hid (by rw [Nat.pow_succ]; exact HI.out.dig n (pow_top HN.out (by omega))), Lib.hid (setRow_below (HB.out.trans (HB'.out.mono HB.out.size)) (by omega) _), Lib.hid (setRow_row HR'.out _), Lib.hid (setRow_row' HR0'.out (by omega) _), Lib.hid (by have := HS.out; have := HB'.out.size; simp; omega)⟩
    · obtain rfl : k = 16 := by omega
      obtain ⟨z0, z1, z2, z3, z4, z5, z6, z7⟩ := HR0.out.cells
      have f := HR0.out.frozen
      go_wp2
      exact bodyPost_ret (results_cell_row Try.results21 _ _ w.heap.size 49 (wA c) (0, 0) _ rfl (set8_row HR0.out c) Try.underlying49 rfl (by kernel_rfl)) rfl ⟨⟨c, HI.out, rfl⟩, set8_below HB.out (Nat.le_refl _)⟩
end Go.Proofs.Ytcffaemclmcknaa
