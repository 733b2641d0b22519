/- Texts that several proofs of this seat share, one behind the other: RMakeP LBits LTimes LWide LPow LPart LRatio LCost. -/
import Derived.Test.YtnognphjndpgkaaGreatDoorPk13
import Derived.Test.YtnognphjndpgkaaGreatDoorPk9
import Derived.Shelf.Spec.BitsCarry
import Derived.Test.YtnognphjndpgkaaGreatDoorProg
import Derived.Test.YtnognphjndpgkaaGreatDoorShelf
import Derived.Test.YtnognphjndpgkaaGreatDoorPk1
import Derived.WalkMore
/- The rules of a table, plain: what is made is normal; what was seen more often costs no more. -/
namespace Go.Proofs.YtnognphjndpgkaaGreatDoor
open Go.RowKit Go.Shelf

/-- The cost of what was seen n times among t, of k blocks. -/
def costK (t k n : Nat) : Nat := min (max (rat (t + k) (n + 1)) 1) 255
theorem costK_bounds (t k n : Nat) : 1 ≤ costK t k n ∧ costK t k n ≤ 255 := by unfold costK; omega
theorem costK_anti {t k n m : Nat} (h : n ≤ m) (hm : m + 1 ≤ t + k) : costK t k m ≤ costK t k n := by
  have := rat_anti (a := t + k) (b := n + 1) (b' := m + 1) (by omega) (by omega) hm
  unfold costK; omega
/-- A block's rule. -/
def ruleB (l : List Blk) (b : Blk) : Blk := (b.1, b.2.1, (costK (sumN l).toNat l.length b.2.2.toNat : Nat))
def mkR (l : List Blk) (least : Int) : List Blk := (l.filter (fun b => decide (least ≤ b.2.2))).map (ruleB l)
theorem srt_filter {l : List Blk} (h : Srt l) (p : Blk → Bool) : Srt (l.filter p) := by
  induction l with
  | nil => exact h
  | cons a l ih =>
    rw [List.filter_cons]
    split
    · exact ⟨fun b hb => h.1 b ((List.mem_filter.1 hb).1), ih h.2⟩
    · exact ih h.2
theorem srt_map {l : List Blk} (h : Srt l) (f : Blk → Blk) (hf : ∀ b, sameS (f b) b) : Srt (l.map f) := by
  induction l with
  | nil => exact h
  | cons a l ih =>
    refine ⟨fun b hb => ?_, ih h.2⟩
    obtain ⟨x, hx, rfl⟩ := List.mem_map.1 hb
    rw [less_key (hf a) (hf x)]
    exact h.1 x hx
theorem mk_srt {l : List Blk} (h : Srt l) (n : Int) : Srt (mkR l n) := srt_map (srt_filter h _) _ (fun _ => ⟨rfl, rfl⟩)
theorem mk_len (l : List Blk) (n : Int) : (mkR l n).length ≤ l.length := by rw [mkR, List.length_map]; exact List.length_filter_le _ _
theorem mk_mem {l : List Blk} {n : Int} {r : Blk} : r ∈ mkR l n ↔ ∃ b ∈ l, n ≤ b.2.2 ∧ r = ruleB l b := by
  unfold mkR
  constructor
  · intro h
    obtain ⟨b, hb, rfl⟩ := List.mem_map.1 h
    obtain ⟨h1, h2⟩ := List.mem_filter.1 hb
    exact ⟨b, h1, of_decide_eq_true h2, rfl⟩
  · rintro ⟨b, hb, hn, rfl⟩
    exact List.mem_map.2 ⟨b, List.mem_filter.2 ⟨hb, decide_eq_true hn⟩, rfl⟩
theorem mk_cost (l : List Blk) (n : Int) : costB (mkR l n) := fun r hr => by
  obtain ⟨b, _, _, rfl⟩ := mk_mem.1 hr
  have := costK_bounds (sumN l).toNat l.length b.2.2.toNat
  show 1 ≤ ((costK (sumN l).toNat l.length b.2.2.toNat : Nat) : Int) ∧ ((costK (sumN l).toNat l.length b.2.2.toNat : Nat) : Int) ≤ 255
  omega
theorem mk_all {l : List Blk} (h : chkAll l = 0) (n : Int) : rall (mkR l n) = 0 := rall_zero.2 (fun r hr => by
  have hc := mk_cost l n r hr
  obtain ⟨b, hb, _, rfl⟩ := mk_mem.1 hr
  have h1 := chkS_other (chkAll_zero.1 h b hb) 1 (by omega) (by omega)
  unfold rchk
  rw [if_pos (show chkS ((ruleB l b).1, (ruleB l b).2.1, 1) = 0 from h1), if_neg (by omega)])
/-- What is made is normal. -/
theorem mk_is {l : List Blk} (h : chkT l = 0) (n : Int) : risS (mkR l n) = 0 := by
  obtain ⟨h1, h2, h3, _⟩ := chkT_facts h
  exact risS_of (mk_all h1 n) (mk_srt h2 n) (Nat.le_trans (mk_len l n) h3)
theorem mk_more (l : List Blk) {n m : Int} (h : n ≤ m) : (mkR l m).length ≤ (mkR l n).length ∧ ∀ r ∈ mkR l m, r ∈ mkR l n := by
  refine ⟨?_, fun r hr => ?_⟩
  · rw [mkR, mkR, List.length_map, List.length_map]
    have e : l.filter (fun b => decide (m ≤ b.2.2)) = (l.filter (fun b => decide (n ≤ b.2.2))).filter (fun b => decide (m ≤ b.2.2)) := by
      rw [List.filter_filter]
      refine List.filter_congr (fun b _ => ?_)
      by_cases hb : m ≤ b.2.2
      · have : n ≤ b.2.2 := by omega
        simp [hb, this]
      · simp [hb]
    rw [e]
    exact List.length_filter_le _ _
  · obtain ⟨b, hb, hm, rfl⟩ := mk_mem.1 hr
    exact mk_mem.2 ⟨b, hb, by omega, rfl⟩
/-- In a row in order each rule's least cost is its own. -/
theorem lst_srt {l : List Blk} (hs : Srt l) (hc : costB l) : ∀ r ∈ l, lst l r = r.2.2 := by
  induction l with
  | nil => simp
  | cons a l ih =>
    intro r hr
    rw [lst_cons]
    rcases List.mem_cons.1 hr with rfl | hr
    · have := (hc r (by simp)).2
      rw [if_pos ⟨rfl, rfl⟩, srt_cons_lst hs]; omega
    · rw [if_neg (less_not (hs.1 r hr)).2]
      exact ih hs.2 (fun z hz => hc z (by simp [hz])) r hr
/-- How often a rule's block was seen; what was seen more often costs no more. -/
theorem mk_seen {l : List Blk} (h : chkT l = 0) {n : Int} {r : Blk} (hr : r ∈ mkR l n) : n ≤ cnt l r ∧ ∃ b ∈ l, sameS b r ∧ cnt l r = b.2.2 ∧ r = ruleB l b := by
  obtain ⟨_, h2, _, _⟩ := chkT_facts h
  obtain ⟨b, hb, hn, rfl⟩ := mk_mem.1 hr
  have e : cnt l (ruleB l b) = b.2.2 := by
    rw [cnt_key (a := ruleB l b) (b := b) ⟨rfl, rfl⟩]; exact srt_mem_cnt h2 b hb
  exact ⟨by rw [e]; exact hn, b, hb, ⟨rfl, rfl⟩, e, rfl⟩
theorem mk_often {l : List Blk} (h : chkT l = 0) {n : Int} {r s : Blk} (hr : r ∈ mkR l n) (hs : s ∈ mkR l n) (hm : cnt l r ≤ cnt l s) : s.2.2 ≤ r.2.2 := by
  obtain ⟨h1, _, _, _⟩ := chkT_facts h
  have hp := posN_of h1
  obtain ⟨_, b, hb, _, e1, rfl⟩ := mk_seen h hr
  obtain ⟨_, c, hc, _, e2, rfl⟩ := mk_seen h hs
  rw [e1, e2] at hm
  have k1 := hp b hb
  have k2 := mem_sumN hp c hc
  have k3 : 1 ≤ l.length := by cases l with | nil => simp at hb | cons a l => simp
  have := costK_anti (t := (sumN l).toNat) (k := l.length) (n := b.2.2.toNat) (m := c.2.2.toNat) (by omega) (by omega)
  show ((costK (sumN l).toNat l.length c.2.2.toNat : Nat) : Int) ≤ ((costK (sumN l).toNat l.length b.2.2.toNat : Nat) : Int)
  omega
end Go.Proofs.YtnognphjndpgkaaGreatDoor

/- The library's call math/bits.Add64, at this program's number. -/
namespace Go.Proofs.YtnognphjndpgkaaGreatDoor
open Go.RowKit

theorem add64_n (x y c : Nat) (hc : c ≤ 1) (w : World) : (callFunc 93 #[.int .u64 x, .int .u64 y, .int .u64 c]).run Tryz.prog w =
    .ok (.value (.tuple #[.int .u64 (((x + y + c) % 18446744073709551616 : Nat) : Int), .int .u64 (((x + y + c) / 18446744073709551616 : Nat) : Int)])) w := by
  rw [run_callFunc_extern Tryz.func93 (by kernel_rfl) (by kernel_rfl) (by kernel_rfl) (e := add64Entry) (by kernel_rfl), run_add64 x y c (by omega) (by omega) (by omega) (by omega)]
  simp only [Result.andThen]
  congr 5 <;> omega

theorem add64_0 (x y : Int) (hx : 0 ≤ x) (hy : 0 ≤ y) (w : World) : (callFunc 93 #[.int .u64 x, .int .u64 y, .int .u64 0]).run Tryz.prog w =
    .ok (.value (.tuple #[.int .u64 ((x + y) % 18446744073709551616), .int .u64 ((x + y) / 18446744073709551616)])) w := by
  obtain ⟨x, rfl⟩ := Int.eq_ofNat_of_zero_le hx
  obtain ⟨y, rfl⟩ := Int.eq_ofNat_of_zero_le hy
  refine (add64_n x y 0 (by omega) w).trans ?_
  congr 5 <;> omega
end Go.Proofs.YtnognphjndpgkaaGreatDoor

/- A number of eight words, so many times: word by word, with what is carried. -/
namespace Go.Proofs.YtnognphjndpgkaaGreatDoor
open Go.RowKit

/-- What is carried into word k. -/
def crr (c : Nat → Nat) (n : Nat) : Nat → Nat
  | 0 => 0
  | k + 1 => (c k * n + crr c n k) / 18446744073709551616
/-- Word k of the product. -/
def dig (c : Nat → Nat) (n k : Nat) : Nat := (c k * n + crr c n k) % 18446744073709551616
/-- The words of a number, of which the first k are done. -/
def mixW (c d : Nat → Nat) (k j : Nat) : Nat := if j < k then d j else c j
/-- Eight words. -/
def wA (c : Nat → Nat) : Array Value := #[.int .u64 (c 0), .int .u64 (c 1), .int .u64 (c 2), .int .u64 (c 3), .int .u64 (c 4), .int .u64 (c 5), .int .u64 (c 6), .int .u64 (c 7)]

theorem crr_le (c : Nat → Nat) (n : Nat) (hc : ∀ k, c k < 18446744073709551616) (k : Nat) : crr c n k ≤ n := by
  induction k with
  | zero => exact Nat.zero_le _
  | succ k ih =>
    have h1 := hc k
    have h2 : c k * n ≤ 18446744073709551615 * n := Nat.mul_le_mul_right n (by omega)
    show (c k * n + crr c n k) / 18446744073709551616 ≤ n
    generalize c k * n = x at *
    omega

theorem step_facts (x n cr : Nat) (hx : x < 18446744073709551616) (hn : n < 18446744073709551616) (hcr : cr ≤ n) :
    ∃ hi lo mo d cr' : Nat, (∀ w, Calls Tryz.prog 92 #[.int .u64 x, .int .u64 n] w fun e w' => e = .returned (.tuple #[.int .u64 hi, .int .u64 lo]) ∧ w' = w) ∧
      (∀ w, (callFunc 93 #[.int .u64 lo, .int .u64 cr, .int .u64 0]).run Tryz.prog w = .ok (.value (.tuple #[.int .u64 d, .int .u64 mo])) w) ∧
      IntKind.u64.wrap ((hi : Int) + (mo : Int)) = (cr' : Int) ∧ Hid (d = (x * n + cr) % 18446744073709551616) ∧ Hid (cr' = (x * n + cr) / 18446744073709551616) := by
  have h2 : x * n ≤ 18446744073709551615 * n := Nat.mul_le_mul_right n (by omega)
  refine ⟨x * n / 18446744073709551616, x * n % 18446744073709551616, (x * n % 18446744073709551616 + cr) / 18446744073709551616, (x * n + cr) % 18446744073709551616, (x * n + cr) / 18446744073709551616, fun w => Tryz.bits_Mul64 x n hx hn w, fun w => ?_, ?_, Lib.hid rfl, Lib.hid rfl⟩
  · have h := add64_n (x * n % 18446744073709551616) cr 0 (by omega) w
    generalize x * n = y at *
    have e1 : (y % 18446744073709551616 + cr + 0) % 18446744073709551616 = (y + cr) % 18446744073709551616 := by omega
    rw [e1, Nat.add_zero] at h
    exact h
  · generalize x * n = y at *
    have e : ∀ z : Int, IntKind.u64.wrap z = z % 18446744073709551616 := fun z => by simp [IntKind.wrap, IntKind.signed, IntKind.bits]
    rw [e]
    omega

set_option maxRecDepth 100000 in
set_option maxHeartbeats 4000000 in
theorem times_any (c : Nat → Nat) (n : Nat) (hc : ∀ k, c k < 18446744073709551616) (hn : n < 18446744073709551616) (w : World) :
    Calls Tryz.prog 66 #[.agg (wA c), .int .u64 n] w fun e w' => e = .returned (.agg (wA (dig c n))) ∧ Below w.heap.size w w' := by
  have HC := Lib.hid hc; clear hc
  have HN := Lib.hid hn; clear hn
  have i0 : ∀ w : World, (Instr.index 113 (.agg (wA c)) (.int .i64 0)).run Tryz.prog w = .ok (.int .u64 (c 0)) w := fun _ => by kernel_rfl
  have i1 : ∀ w : World, (Instr.index 113 (.agg (wA c)) (.int .i64 1)).run Tryz.prog w = .ok (.int .u64 (c 1)) w := fun _ => by kernel_rfl
  have i2 : ∀ w : World, (Instr.index 113 (.agg (wA c)) (.int .i64 2)).run Tryz.prog w = .ok (.int .u64 (c 2)) w := fun _ => by kernel_rfl
  have i3 : ∀ w : World, (Instr.index 113 (.agg (wA c)) (.int .i64 3)).run Tryz.prog w = .ok (.int .u64 (c 3)) w := fun _ => by kernel_rfl
  have i4 : ∀ w : World, (Instr.index 113 (.agg (wA c)) (.int .i64 4)).run Tryz.prog w = .ok (.int .u64 (c 4)) w := fun _ => by kernel_rfl
  have i5 : ∀ w : World, (Instr.index 113 (.agg (wA c)) (.int .i64 5)).run Tryz.prog w = .ok (.int .u64 (c 5)) w := fun _ => by kernel_rfl
  have i6 : ∀ w : World, (Instr.index 113 (.agg (wA c)) (.int .i64 6)).run Tryz.prog w = .ok (.int .u64 (c 6)) w := fun _ => by kernel_rfl
  have i7 : ∀ w : World, (Instr.index 113 (.agg (wA c)) (.int .i64 7)).run Tryz.prog w = .ok (.int .u64 (c 7)) w := fun _ => by kernel_rfl
  simp only [wA] at i0 i1 i2 i3 i4 i5 i6 i7 ⊢
  go_enter Tryz.func66, Tryz.ntmps66
  go_wp2
  go_loopg [5, 13] 8 (fun g s5 s13 wr => ∃ k : Nat, k ≤ 8 ∧ 8 - k ≤ g ∧ s5 = .int .u64 (crr c n k) ∧ s13 = .int .i64 k ∧ wr = ((w.alloc (.cells (wA (mixW c (dig c n) k)) 113)).alloc (.cells (wA fun _ => 0) 113)))
  case atStart => exact ⟨0, by omega, by omega, rfl, rfl, rfl⟩
  case round =>
    obtain ⟨k, hk, hg, rfl, rfl, rfl⟩ := hrel
    obtain ⟨hi, lo, mo, d, cr', hmul, hadd, hcr, HD, HC'⟩ := step_facts (c k) n (crr c n k) (HC.out k) HN.out (crr_le c n HC.out k)
    have hk5 : k = 0 ∨ k = 1 ∨ k = 2 ∨ k = 3 ∨ k = 4 ∨ k = 5 ∨ k = 6 ∨ k = 7 ∨ k = 8 := by omega
    rcases hk5 with rfl | rfl | rfl | rfl | rfl | rfl | rfl | rfl | rfl
    · simp only [wA, mixW]
      go_wp2_with (go_at_call 92; refine (hmul _).mono ?_; rintro e w' ⟨rfl, rfl⟩)
      rw [show d = dig c n 0 from HD.out, show cr' = crr c n 1 from HC'.out] at *
      go_roundg (8 - 1)
      case measure => omega
      case rel => exact ⟨1, by omega, by omega, rfl, rfl, rfl⟩
    · simp only [wA, mixW]
      go_wp2_with (go_at_call 92; refine (hmul _).mono ?_; rintro e w' ⟨rfl, rfl⟩)
      rw [show d = dig c n 1 from HD.out, show cr' = crr c n 2 from HC'.out] at *
      go_roundg (8 - 2)
      case measure => omega
      case rel => exact ⟨2, by omega, by omega, rfl, rfl, rfl⟩
    · simp only [wA, mixW]
      go_wp2_with (go_at_call 92; refine (hmul _).mono ?_; rintro e w' ⟨rfl, rfl⟩)
      rw [show d = dig c n 2 from HD.out, show cr' = crr c n 3 from HC'.out] at *
      go_roundg (8 - 3)
      case measure => omega
      case rel => exact ⟨3, by omega, by omega, rfl, rfl, rfl⟩
    · simp only [wA, mixW]
      go_wp2_with (go_at_call 92; refine (hmul _).mono ?_; rintro e w' ⟨rfl, rfl⟩)
      rw [show d = dig c n 3 from HD.out, show cr' = crr c n 4 from HC'.out] at *
      go_roundg (8 - 4)
      case measure => omega
      case rel => exact ⟨4, by omega, by omega, rfl, rfl, rfl⟩
    · simp only [wA, mixW]
      go_wp2_with (go_at_call 92; refine (hmul _).mono ?_; rintro e w' ⟨rfl, rfl⟩)
      rw [show d = dig c n 4 from HD.out, show cr' = crr c n 5 from HC'.out] at *
      go_roundg (8 - 5)
      case measure => omega
      case rel => exact ⟨5, by omega, by omega, rfl, rfl, rfl⟩
    · simp only [wA, mixW]
      go_wp2_with (go_at_call 92; refine (hmul _).mono ?_; rintro e w' ⟨rfl, rfl⟩)
      rw [show d = dig c n 5 from HD.out, show cr' = crr c n 6 from HC'.out] at *
      go_roundg (8 - 6)
      case measure => omega
      case rel => exact ⟨6, by omega, by omega, rfl, rfl, rfl⟩
    · simp only [wA, mixW]
      go_wp2_with (go_at_call 92; refine (hmul _).mono ?_; rintro e w' ⟨rfl, rfl⟩)
      rw [show d = dig c n 6 from HD.out, show cr' = crr c n 7 from HC'.out] at *
      go_roundg (8 - 7)
      case measure => omega
      case rel => exact ⟨7, by omega, by omega, rfl, rfl, rfl⟩
    · simp only [wA, mixW]
      go_wp2_with (go_at_call 92; refine (hmul _).mono ?_; rintro e w' ⟨rfl, rfl⟩)
      rw [show d = dig c n 7 from HD.out, show cr' = crr c n 8 from HC'.out] at *
      go_roundg (8 - 8)
      case measure => omega
      case rel => exact ⟨8, by omega, by omega, rfl, rfl, rfl⟩
    · simp only [wA, mixW]
      clear hmul hadd
      go_wp2
      simp [bodyPost, results, Tryz.results66, go_sem]
      exact ((Below.refl _ _).alloc (Nat.le_refl _) _).alloc (by simp) _
end Go.Proofs.YtnognphjndpgkaaGreatDoor

/- Numbers of eight words: what they are worth; the greater of two. -/
namespace Go.Proofs.YtnognphjndpgkaaGreatDoor
open Go.RowKit

/-- What the first k words are worth. -/
def valW (c : Nat → Nat) : Nat → Nat
  | 0 => 0
  | k + 1 => valW c k + c k * 18446744073709551616 ^ k
/-- Eight words of which each is one, and what they are worth. -/
def IsW (c : Nat → Nat) (v : Nat) : Prop := (∀ k, c k < 18446744073709551616) ∧ valW c 8 = v

theorem valW_lt (c : Nat → Nat) (hc : ∀ k, c k < 18446744073709551616) (k : Nat) : valW c k < 18446744073709551616 ^ k := by
  induction k with
  | zero => simp [valW]
  | succ k ih =>
    have h1 : c k * 18446744073709551616 ^ k ≤ 18446744073709551615 * 18446744073709551616 ^ k := Nat.mul_le_mul_right _ (by have := hc k; omega)
    rw [valW, Nat.pow_succ]
    generalize c k * 18446744073709551616 ^ k = x at *
    generalize 18446744073709551616 ^ k = y at *
    omega

theorem valW_dig (c : Nat → Nat) (n k : Nat) : valW (dig c n) k + crr c n k * 18446744073709551616 ^ k = valW c k * n := by
  induction k with
  | zero => simp [valW, crr]
  | succ k ih =>
    have e : c k * n + crr c n k = dig c n k + 18446744073709551616 * crr c n (k + 1) := by
      show _ = (c k * n + crr c n k) % 18446744073709551616 + 18446744073709551616 * ((c k * n + crr c n k) / 18446744073709551616)
      omega
    rw [valW, valW, Nat.add_mul, ← ih, Nat.pow_succ]
    have e2 : c k * 18446744073709551616 ^ k * n + crr c n k * 18446744073709551616 ^ k = (c k * n + crr c n k) * 18446744073709551616 ^ k := by
      rw [Nat.add_mul, Nat.mul_right_comm]
    have e3 : crr c n (k + 1) * (18446744073709551616 ^ k * 18446744073709551616) = 18446744073709551616 * crr c n (k + 1) * 18446744073709551616 ^ k := by
      rw [Nat.mul_comm (18446744073709551616 ^ k), ← Nat.mul_assoc, Nat.mul_comm (crr c n (k + 1))]
    rw [e, Nat.add_mul] at e2
    rw [e3]
    generalize 18446744073709551616 * crr c n (k + 1) * 18446744073709551616 ^ k = z at *
    generalize c k * 18446744073709551616 ^ k * n = y at *
    generalize crr c n k * 18446744073709551616 ^ k = u at *
    generalize dig c n k * 18446744073709551616 ^ k = t at *
    omega

theorem valW_dig_lt (c : Nat → Nat) (n k : Nat) (hv : valW c k * n < 18446744073709551616 ^ k) : valW (dig c n) k = valW c k * n := by
  have e := valW_dig c n k
  rcases Nat.eq_zero_or_pos (crr c n k) with h | h
  · rw [h] at e
    simpa using e
  · exfalso
    have h1 : 1 * 18446744073709551616 ^ k ≤ crr c n k * 18446744073709551616 ^ k := Nat.mul_le_mul_right _ h
    rw [Nat.one_mul] at h1
    generalize crr c n k * 18446744073709551616 ^ k = y at *
    generalize valW c k * n = z at *
    generalize 18446744073709551616 ^ k = t at *
    omega

/-- One more than eight words can hold. -/
def topW (k : Nat) : Nat := 18446744073709551616 ^ k

theorem IsW.dig {c : Nat → Nat} {v : Nat} (h : IsW c v) (n : Nat) (hv : v * n < topW 8) : IsW (dig c n) (v * n) := by
  obtain ⟨hc, rfl⟩ := h
  exact ⟨fun k => Nat.mod_lt _ (by decide), valW_dig_lt c n 8 hv⟩

/-- Is the first of two greater, by their first k words? -/
def gtW (c d : Nat → Nat) : Nat → Bool
  | 0 => false
  | k + 1 => if c k = d k then gtW c d k else decide (d k < c k)

theorem gtW_iff (c d : Nat → Nat) (hc : ∀ k, c k < 18446744073709551616) (hd : ∀ k, d k < 18446744073709551616) (k : Nat) : gtW c d k = decide (valW d k < valW c k) := by
  induction k with
  | zero => simp [gtW, valW]
  | succ k ih =>
    have h1 := valW_lt c hc k
    have h2 := valW_lt d hd k
    rw [gtW, valW, valW]
    by_cases e : c k = d k
    · rw [if_pos e, ih, e]
      simp
    · rw [if_neg e]
      by_cases hlt : d k < c k
      · have h3 : (d k + 1) * 18446744073709551616 ^ k ≤ c k * 18446744073709551616 ^ k := Nat.mul_le_mul_right _ hlt
        rw [Nat.add_mul] at h3
        generalize c k * 18446744073709551616 ^ k = x at *
        generalize d k * 18446744073709551616 ^ k = y at *
        generalize 18446744073709551616 ^ k = z at *
        rw [decide_eq_true hlt, decide_eq_true (by omega)]
      · have h3 : (c k + 1) * 18446744073709551616 ^ k ≤ d k * 18446744073709551616 ^ k := Nat.mul_le_mul_right _ (by omega)
        rw [Nat.add_mul] at h3
        generalize c k * 18446744073709551616 ^ k = x at *
        generalize d k * 18446744073709551616 ^ k = y at *
        generalize 18446744073709551616 ^ k = z at *
        rw [decide_eq_false hlt, decide_eq_false (by omega)]

theorem times_w {c : Nat → Nat} {v : Nat} (h : IsW c v) (n : Nat) (hn : n < 18446744073709551616) (w : World) :
    Calls Tryz.prog 66 #[.agg (wA c), .int .u64 n] w fun e w' => e = .returned (.agg (wA (dig c n))) ∧ Below w.heap.size w w' :=
  times_any c n h.1 hn w

set_option maxRecDepth 100000 in
set_option maxHeartbeats 4000000 in
theorem exceeds_any (c d : Nat → Nat) (w : World) :
    Calls Tryz.prog 67 #[.agg (wA c), .agg (wA d)] w fun e w' => e = .returned (.bool (gtW c d 8)) ∧ Below w.heap.size w w' := by
  simp only [wA]
  go_enter Tryz.func67, Tryz.ntmps67
  go_wp2
  go_loopg [5] 8 (fun g s5 wr => ∃ k q : Nat, k ≤ 8 ∧ k ≤ g ∧ s5 = .int .i64 ((k : Int) - 1) ∧ Hid (gtW c d 8 = gtW c d k) ∧ wr = ((w.alloc (.cells (wA c) 113)).alloc (.cells (wA d) 113)).drewN q)
  case atStart => exact ⟨8, 0, by omega, by omega, rfl, Lib.hid rfl, rfl⟩
  case round =>
    obtain ⟨k, q, hk, hg, rfl, HG, rfl⟩ := hrel
    have hk5 : k = 0 ∨ k = 1 ∨ k = 2 ∨ k = 3 ∨ k = 4 ∨ k = 5 ∨ k = 6 ∨ k = 7 ∨ k = 8 := by omega
    rcases hk5 with rfl | rfl | rfl | rfl | rfl | rfl | rfl | rfl | rfl
    · simp only [wA]
      go_wp2
      go_ret
      exact ⟨ret_bool HG.out.symm, below_draws (((Below.refl _ _).alloc (Nat.le_refl _) _).alloc (by simp) _) _⟩
    · have HS : Hid (gtW c d 1 = if c 0 = d 0 then gtW c d 0 else decide (d 0 < c 0)) := Lib.hid rfl
      obtain ⟨x, hx⟩ : ∃ x, x = c 0 := ⟨_, rfl⟩
      obtain ⟨y, hy⟩ : ∃ y, y = d 0 := ⟨_, rfl⟩
      rw [← hx, ← hy] at HS
      simp only [wA]
      rw [← hx, ← hy]
      by_cases e : x = y
      · have HG2 := Lib.hid (HG.out.trans (HS.out.trans (if_pos e)))
        have e1 : ((x : Int) == (y : Int)) = true := by rw [e]; simp
        have e2 : decide ((x : Int) = (y : Int)) = true := by rw [e]; simp
        have HE := Lib.hid e; clear e HS
        have HX := Lib.hid hx; clear hx
        have HY := Lib.hid hy; clear hy
        go_wp2
        go_quiet (fail)
        go_wp2
        rw [HX.out, HY.out]
        go_roundg 0
        case measure => omega
        case rel => exact ⟨0, _, by omega, by omega, by go_num, HG2, rfl⟩
      · have HG2 := Lib.hid (HG.out.trans (HS.out.trans (if_neg e)))
        clear hx hy HS
        have e' : ¬ (x : Int) = (y : Int) := by omega
        by_cases l : y < x
        · have l' : (y : Int) < (x : Int) := by omega
          go_wp2
          go_quiet (fail)
          go_wp2
          go_quiet (fail)
          go_wp2
          go_ret
          exact ⟨ret_bool (by rw [HG2.out]; simp [l]), below_draws (below_draws (below_draws (((Below.refl _ _).alloc (Nat.le_refl _) _).alloc (by simp) _) _) _) _⟩
        · have l' : ¬ (y : Int) < (x : Int) := by omega
          go_wp2
          go_quiet (fail)
          go_wp2
          go_quiet (fail)
          go_wp2
          go_ret
          exact ⟨ret_bool (by rw [HG2.out]; simp [l]), below_draws (below_draws (below_draws (((Below.refl _ _).alloc (Nat.le_refl _) _).alloc (by simp) _) _) _) _⟩
    · have HS : Hid (gtW c d 2 = if c 1 = d 1 then gtW c d 1 else decide (d 1 < c 1)) := Lib.hid rfl
      obtain ⟨x, hx⟩ : ∃ x, x = c 1 := ⟨_, rfl⟩
      obtain ⟨y, hy⟩ : ∃ y, y = d 1 := ⟨_, rfl⟩
      rw [← hx, ← hy] at HS
      simp only [wA]
      rw [← hx, ← hy]
      by_cases e : x = y
      · have HG2 := Lib.hid (HG.out.trans (HS.out.trans (if_pos e)))
        have e1 : ((x : Int) == (y : Int)) = true := by rw [e]; simp
        have e2 : decide ((x : Int) = (y : Int)) = true := by rw [e]; simp
        have HE := Lib.hid e; clear e HS
        have HX := Lib.hid hx; clear hx
        have HY := Lib.hid hy; clear hy
        go_wp2
        go_quiet (fail)
        go_wp2
        rw [HX.out, HY.out]
        go_roundg 1
        case measure => omega
        case rel => exact ⟨1, _, by omega, by omega, by go_num, HG2, rfl⟩
      · have HG2 := Lib.hid (HG.out.trans (HS.out.trans (if_neg e)))
        clear hx hy HS
        have e' : ¬ (x : Int) = (y : Int) := by omega
        by_cases l : y < x
        · have l' : (y : Int) < (x : Int) := by omega
          go_wp2
          go_quiet (fail)
          go_wp2
          go_quiet (fail)
          go_wp2
          go_ret
          exact ⟨ret_bool (by rw [HG2.out]; simp [l]), below_draws (below_draws (below_draws (((Below.refl _ _).alloc (Nat.le_refl _) _).alloc (by simp) _) _) _) _⟩
        · have l' : ¬ (y : Int) < (x : Int) := by omega
          go_wp2
          go_quiet (fail)
          go_wp2
          go_quiet (fail)
          go_wp2
          go_ret
          exact ⟨ret_bool (by rw [HG2.out]; simp [l]), below_draws (below_draws (below_draws (((Below.refl _ _).alloc (Nat.le_refl _) _).alloc (by simp) _) _) _) _⟩
    · have HS : Hid (gtW c d 3 = if c 2 = d 2 then gtW c d 2 else decide (d 2 < c 2)) := Lib.hid rfl
      obtain ⟨x, hx⟩ : ∃ x, x = c 2 := ⟨_, rfl⟩
      obtain ⟨y, hy⟩ : ∃ y, y = d 2 := ⟨_, rfl⟩
      rw [← hx, ← hy] at HS
      simp only [wA]
      rw [← hx, ← hy]
      by_cases e : x = y
      · have HG2 := Lib.hid (HG.out.trans (HS.out.trans (if_pos e)))
        have e1 : ((x : Int) == (y : Int)) = true := by rw [e]; simp
        have e2 : decide ((x : Int) = (y : Int)) = true := by rw [e]; simp
        have HE := Lib.hid e; clear e HS
        have HX := Lib.hid hx; clear hx
        have HY := Lib.hid hy; clear hy
        go_wp2
        go_quiet (fail)
        go_wp2
        rw [HX.out, HY.out]
        go_roundg 2
        case measure => omega
        case rel => exact ⟨2, _, by omega, by omega, by go_num, HG2, rfl⟩
      · have HG2 := Lib.hid (HG.out.trans (HS.out.trans (if_neg e)))
        clear hx hy HS
        have e' : ¬ (x : Int) = (y : Int) := by omega
        by_cases l : y < x
        · have l' : (y : Int) < (x : Int) := by omega
          go_wp2
          go_quiet (fail)
          go_wp2
          go_quiet (fail)
          go_wp2
          go_ret
          exact ⟨ret_bool (by rw [HG2.out]; simp [l]), below_draws (below_draws (below_draws (((Below.refl _ _).alloc (Nat.le_refl _) _).alloc (by simp) _) _) _) _⟩
        · have l' : ¬ (y : Int) < (x : Int) := by omega
          go_wp2
          go_quiet (fail)
          go_wp2
          go_quiet (fail)
          go_wp2
          go_ret
          exact ⟨ret_bool (by rw [HG2.out]; simp [l]), below_draws (below_draws (below_draws (((Below.refl _ _).alloc (Nat.le_refl _) _).alloc (by simp) _) _) _) _⟩
    · have HS : Hid (gtW c d 4 = if c 3 = d 3 then gtW c d 3 else decide (d 3 < c 3)) := Lib.hid rfl
      obtain ⟨x, hx⟩ : ∃ x, x = c 3 := ⟨_, rfl⟩
      obtain ⟨y, hy⟩ : ∃ y, y = d 3 := ⟨_, rfl⟩
      rw [← hx, ← hy] at HS
      simp only [wA]
      rw [← hx, ← hy]
      by_cases e : x = y
      · have HG2 := Lib.hid (HG.out.trans (HS.out.trans (if_pos e)))
        have e1 : ((x : Int) == (y : Int)) = true := by rw [e]; simp
        have e2 : decide ((x : Int) = (y : Int)) = true := by rw [e]; simp
        have HE := Lib.hid e; clear e HS
        have HX := Lib.hid hx; clear hx
        have HY := Lib.hid hy; clear hy
        go_wp2
        go_quiet (fail)
        go_wp2
        rw [HX.out, HY.out]
        go_roundg 3
        case measure => omega
        case rel => exact ⟨3, _, by omega, by omega, by go_num, HG2, rfl⟩
      · have HG2 := Lib.hid (HG.out.trans (HS.out.trans (if_neg e)))
        clear hx hy HS
        have e' : ¬ (x : Int) = (y : Int) := by omega
        by_cases l : y < x
        · have l' : (y : Int) < (x : Int) := by omega
          go_wp2
          go_quiet (fail)
          go_wp2
          go_quiet (fail)
          go_wp2
          go_ret
          exact ⟨ret_bool (by rw [HG2.out]; simp [l]), below_draws (below_draws (below_draws (((Below.refl _ _).alloc (Nat.le_refl _) _).alloc (by simp) _) _) _) _⟩
        · have l' : ¬ (y : Int) < (x : Int) := by omega
          go_wp2
          go_quiet (fail)
          go_wp2
          go_quiet (fail)
          go_wp2
          go_ret
          exact ⟨ret_bool (by rw [HG2.out]; simp [l]), below_draws (below_draws (below_draws (((Below.refl _ _).alloc (Nat.le_refl _) _).alloc (by simp) _) _) _) _⟩
    · have HS : Hid (gtW c d 5 = if c 4 = d 4 then gtW c d 4 else decide (d 4 < c 4)) := Lib.hid rfl
      obtain ⟨x, hx⟩ : ∃ x, x = c 4 := ⟨_, rfl⟩
      obtain ⟨y, hy⟩ : ∃ y, y = d 4 := ⟨_, rfl⟩
      rw [← hx, ← hy] at HS
      simp only [wA]
      rw [← hx, ← hy]
      by_cases e : x = y
      · have HG2 := Lib.hid (HG.out.trans (HS.out.trans (if_pos e)))
        have e1 : ((x : Int) == (y : Int)) = true := by rw [e]; simp
        have e2 : decide ((x : Int) = (y : Int)) = true := by rw [e]; simp
        have HE := Lib.hid e; clear e HS
        have HX := Lib.hid hx; clear hx
        have HY := Lib.hid hy; clear hy
        go_wp2
        go_quiet (fail)
        go_wp2
        rw [HX.out, HY.out]
        go_roundg 4
        case measure => omega
        case rel => exact ⟨4, _, by omega, by omega, by go_num, HG2, rfl⟩
      · have HG2 := Lib.hid (HG.out.trans (HS.out.trans (if_neg e)))
        clear hx hy HS
        have e' : ¬ (x : Int) = (y : Int) := by omega
        by_cases l : y < x
        · have l' : (y : Int) < (x : Int) := by omega
          go_wp2
          go_quiet (fail)
          go_wp2
          go_quiet (fail)
          go_wp2
          go_ret
          exact ⟨ret_bool (by rw [HG2.out]; simp [l]), below_draws (below_draws (below_draws (((Below.refl _ _).alloc (Nat.le_refl _) _).alloc (by simp) _) _) _) _⟩
        · have l' : ¬ (y : Int) < (x : Int) := by omega
          go_wp2
          go_quiet (fail)
          go_wp2
          go_quiet (fail)
          go_wp2
          go_ret
          exact ⟨ret_bool (by rw [HG2.out]; simp [l]), below_draws (below_draws (below_draws (((Below.refl _ _).alloc (Nat.le_refl _) _).alloc (by simp) _) _) _) _⟩
    · have HS : Hid (gtW c d 6 = if c 5 = d 5 then gtW c d 5 else decide (d 5 < c 5)) := Lib.hid rfl
      obtain ⟨x, hx⟩ : ∃ x, x = c 5 := ⟨_, rfl⟩
      obtain ⟨y, hy⟩ : ∃ y, y = d 5 := ⟨_, rfl⟩
      rw [← hx, ← hy] at HS
      simp only [wA]
      rw [← hx, ← hy]
      by_cases e : x = y
      · have HG2 := Lib.hid (HG.out.trans (HS.out.trans (if_pos e)))
        have e1 : ((x : Int) == (y : Int)) = true := by rw [e]; simp
        have e2 : decide ((x : Int) = (y : Int)) = true := by rw [e]; simp
        have HE := Lib.hid e; clear e HS
        have HX := Lib.hid hx; clear hx
        have HY := Lib.hid hy; clear hy
        go_wp2
        go_quiet (fail)
        go_wp2
        rw [HX.out, HY.out]
        go_roundg 5
        case measure => omega
        case rel => exact ⟨5, _, by omega, by omega, by go_num, HG2, rfl⟩
      · have HG2 := Lib.hid (HG.out.trans (HS.out.trans (if_neg e)))
        clear hx hy HS
        have e' : ¬ (x : Int) = (y : Int) := by omega
        by_cases l : y < x
        · have l' : (y : Int) < (x : Int) := by omega
          go_wp2
          go_quiet (fail)
          go_wp2
          go_quiet (fail)
          go_wp2
          go_ret
          exact ⟨ret_bool (by rw [HG2.out]; simp [l]), below_draws (below_draws (below_draws (((Below.refl _ _).alloc (Nat.le_refl _) _).alloc (by simp) _) _) _) _⟩
        · have l' : ¬ (y : Int) < (x : Int) := by omega
          go_wp2
          go_quiet (fail)
          go_wp2
          go_quiet (fail)
          go_wp2
          go_ret
          exact ⟨ret_bool (by rw [HG2.out]; simp [l]), below_draws (below_draws (below_draws (((Below.refl _ _).alloc (Nat.le_refl _) _).alloc (by simp) _) _) _) _⟩
    · have HS : Hid (gtW c d 7 = if c 6 = d 6 then gtW c d 6 else decide (d 6 < c 6)) := Lib.hid rfl
      obtain ⟨x, hx⟩ : ∃ x, x = c 6 := ⟨_, rfl⟩
      obtain ⟨y, hy⟩ : ∃ y, y = d 6 := ⟨_, rfl⟩
      rw [← hx, ← hy] at HS
      simp only [wA]
      rw [← hx, ← hy]
      by_cases e : x = y
      · have HG2 := Lib.hid (HG.out.trans (HS.out.trans (if_pos e)))
        have e1 : ((x : Int) == (y : Int)) = true := by rw [e]; simp
        have e2 : decide ((x : Int) = (y : Int)) = true := by rw [e]; simp
        have HE := Lib.hid e; clear e HS
        have HX := Lib.hid hx; clear hx
        have HY := Lib.hid hy; clear hy
        go_wp2
        go_quiet (fail)
        go_wp2
        rw [HX.out, HY.out]
        go_roundg 6
        case measure => omega
        case rel => exact ⟨6, _, by omega, by omega, by go_num, HG2, rfl⟩
      · have HG2 := Lib.hid (HG.out.trans (HS.out.trans (if_neg e)))
        clear hx hy HS
        have e' : ¬ (x : Int) = (y : Int) := by omega
        by_cases l : y < x
        · have l' : (y : Int) < (x : Int) := by omega
          go_wp2
          go_quiet (fail)
          go_wp2
          go_quiet (fail)
          go_wp2
          go_ret
          exact ⟨ret_bool (by rw [HG2.out]; simp [l]), below_draws (below_draws (below_draws (((Below.refl _ _).alloc (Nat.le_refl _) _).alloc (by simp) _) _) _) _⟩
        · have l' : ¬ (y : Int) < (x : Int) := by omega
          go_wp2
          go_quiet (fail)
          go_wp2
          go_quiet (fail)
          go_wp2
          go_ret
          exact ⟨ret_bool (by rw [HG2.out]; simp [l]), below_draws (below_draws (below_draws (((Below.refl _ _).alloc (Nat.le_refl _) _).alloc (by simp) _) _) _) _⟩
    · have HS : Hid (gtW c d 8 = if c 7 = d 7 then gtW c d 7 else decide (d 7 < c 7)) := Lib.hid rfl
      obtain ⟨x, hx⟩ : ∃ x, x = c 7 := ⟨_, rfl⟩
      obtain ⟨y, hy⟩ : ∃ y, y = d 7 := ⟨_, rfl⟩
      rw [← hx, ← hy] at HS
      simp only [wA]
      rw [← hx, ← hy]
      by_cases e : x = y
      · have HG2 := Lib.hid (HG.out.trans (HS.out.trans (if_pos e)))
        have e1 : ((x : Int) == (y : Int)) = true := by rw [e]; simp
        have e2 : decide ((x : Int) = (y : Int)) = true := by rw [e]; simp
        have HE := Lib.hid e; clear e HS
        have HX := Lib.hid hx; clear hx
        have HY := Lib.hid hy; clear hy
        go_wp2
        go_quiet (fail)
        go_wp2
        rw [HX.out, HY.out]
        go_roundg 7
        case measure => omega
        case rel => exact ⟨7, _, by omega, by omega, by go_num, HG2, rfl⟩
      · have HG2 := Lib.hid (HG.out.trans (HS.out.trans (if_neg e)))
        clear hx hy HS
        have e' : ¬ (x : Int) = (y : Int) := by omega
        by_cases l : y < x
        · have l' : (y : Int) < (x : Int) := by omega
          go_wp2
          go_quiet (fail)
          go_wp2
          go_quiet (fail)
          go_wp2
          go_ret
          exact ⟨ret_bool (by rw [HG2.out]; simp [l]), below_draws (below_draws (below_draws (((Below.refl _ _).alloc (Nat.le_refl _) _).alloc (by simp) _) _) _) _⟩
        · have l' : ¬ (y : Int) < (x : Int) := by omega
          go_wp2
          go_quiet (fail)
          go_wp2
          go_quiet (fail)
          go_wp2
          go_ret
          exact ⟨ret_bool (by rw [HG2.out]; simp [l]), below_draws (below_draws (below_draws (((Below.refl _ _).alloc (Nat.le_refl _) _).alloc (by simp) _) _) _) _⟩
end Go.Proofs.YtnognphjndpgkaaGreatDoor

/- A number that stands sixteen times in a product. -/
namespace Go.Proofs.YtnognphjndpgkaaGreatDoor
open Go.RowKit

/-- Block b is a variable of eight words. -/
def RowW (w : World) (b : Nat) (c : Nat → Nat) : Prop := w.heap[b]? = some (.cells (wA c) 113)
theorem RowW.below {w w' : World} {b B : Nat} {c : Nat → Nat} (h : RowW w b c) (hb : Below B w w') (hB : b < B) : RowW w' b c := (hb.block b hB).trans h
theorem RowW.cells {w : World} {b : Nat} {c : Nat → Nat} (h : RowW w b c) :
    w.cell? ⟨b, 0, none⟩ = some (.int .u64 (c 0)) ∧ w.cell? ⟨b, 1, none⟩ = some (.int .u64 (c 1)) ∧ w.cell? ⟨b, 2, none⟩ = some (.int .u64 (c 2)) ∧ w.cell? ⟨b, 3, none⟩ = some (.int .u64 (c 3)) ∧
    w.cell? ⟨b, 4, none⟩ = some (.int .u64 (c 4)) ∧ w.cell? ⟨b, 5, none⟩ = some (.int .u64 (c 5)) ∧ w.cell? ⟨b, 6, none⟩ = some (.int .u64 (c 6)) ∧ w.cell? ⟨b, 7, none⟩ = some (.int .u64 (c 7)) := by
  have e : ∀ j, w.cell? ⟨b, j, none⟩ = (wA c)[j]? := fun j => cell_of_row w b j (wA c) _ (0, 0) h
  exact ⟨(e 0).trans rfl, (e 1).trans rfl, (e 2).trans rfl, (e 3).trans rfl, (e 4).trans rfl, (e 5).trans rfl, (e 6).trans rfl, (e 7).trans rfl⟩
/-- Eight words out of a variable, as the walk meets it. -/
theorem load8 {w : World} {b : Nat} {c : Nat → Nat} (h : RowW w b c) : (loadCellsFrom ⟨b, 0, none⟩ 0 8 #[]).run Tryz.prog w = .ok (wA c) w := by
  have := run_loadCells_list (P := Tryz.prog) w ⟨b, 0, none⟩ (wA c).toList (fun j v hv => by
    have hadd : (⟨b, 0, none⟩ : Addr).add j = ⟨b, j, none⟩ := by unfold Addr.add; split <;> simp_all
    rw [hadd, cell_of_row w b j (wA c) _ (0, 0) h]
    simpa using hv)
  simpa [loadCells, wA] using this
theorem row_new2 (w : World) (o : Obj) (c : Nat → Nat) : RowW ((w.alloc o).alloc (.cells (wA c) 113)) (w.heap.size + 1) c := by
  have := heap_alloc_new (w.alloc o) (.cells (wA c) 113)
  rw [World.size_alloc] at this
  exact this
theorem row_new1 (w : World) (o : Obj) (c : Nat → Nat) : RowW ((w.alloc (.cells (wA c) 113)).alloc o) w.heap.size c :=
  (Below.heap_alloc (w.alloc (.cells (wA c) 113)) o w.heap.size (by simp)).trans (heap_alloc_new w _)
/-- Eight words into a variable, as the walk meets it. -/
theorem store8 {w : World} {b : Nat} {c : Nat → Nat} (h : RowW w b c) (d : Nat → Nat) : (storeCells ⟨b, 0, none⟩ (wA d).toList 0).run Tryz.prog w = .ok () (w.setRow b (wA d)) := by
  have := run_storeCells_from (P := Tryz.prog) b 113 (wA d).toList 0 (wA c) w h (by simp [wA]) (fun v hv => by
    simp [wA] at hv
    rcases hv with rfl | rfl | rfl | rfl | rfl | rfl | rfl | rfl <;> rfl)
  simpa [wA] using this
theorem RowW.frozen {w : World} {b : Nat} {c : Nat → Nat} (h : RowW w b c) (j : Nat) : w.frozen? ⟨b, j, none⟩ = false := by
  have h' : w.heap[b]? = some (.cells (wA c) 113 (0, 0)) := h
  simp [World.frozen?, h']
/-- Eight stores, one behind the other. -/
def set8 (w : World) (b : Nat) (d : Nat → Nat) : World :=
  (((((((w.setCell ⟨b, 0, none⟩ (.int .u64 (d 0))).setCell ⟨b, 1, none⟩ (.int .u64 (d 1))).setCell ⟨b, 2, none⟩ (.int .u64 (d 2))).setCell ⟨b, 3, none⟩ (.int .u64 (d 3))).setCell ⟨b, 4, none⟩ (.int .u64 (d 4))).setCell ⟨b, 5, none⟩ (.int .u64 (d 5))).setCell ⟨b, 6, none⟩ (.int .u64 (d 6))).setCell ⟨b, 7, none⟩ (.int .u64 (d 7))
theorem set8_row {w : World} {b : Nat} {c : Nat → Nat} (h : RowW w b c) (d : Nat → Nat) : RowW (set8 w b d) b d := by
  have h' : w.heap[b]? = some (.cells (wA c) 113 (0, 0)) := h
  have st : ∀ {w : World} {cur : Array Value} (i : Nat) (v : Value), w.heap[b]? = some (.cells cur 113 (0, 0)) → (w.setCell ⟨b, i, none⟩ v).heap[b]? = some (.cells (cur.setIfInBounds i v) 113 (0, 0)) := by
    intro w cur i v hw
    rw [setCell_eq_setRow w b i cur _ (0, 0) v hw]
    exact setRow_heap w b cur _ _ (0, 0) hw
  have h0 := st 0 (.int .u64 (d 0)) h'
  have h1 := st 1 (.int .u64 (d 1)) h0
  have h2 := st 2 (.int .u64 (d 2)) h1
  have h3 := st 3 (.int .u64 (d 3)) h2
  have h4 := st 4 (.int .u64 (d 4)) h3
  have h5 := st 5 (.int .u64 (d 5)) h4
  have h6 := st 6 (.int .u64 (d 6)) h5
  have h7 := st 7 (.int .u64 (d 7)) h6
  have e : ((((((((wA c).setIfInBounds 0 (.int .u64 (d 0))).setIfInBounds 1 (.int .u64 (d 1))).setIfInBounds 2 (.int .u64 (d 2))).setIfInBounds 3 (.int .u64 (d 3))).setIfInBounds 4 (.int .u64 (d 4))).setIfInBounds 5 (.int .u64 (d 5))).setIfInBounds 6 (.int .u64 (d 6))).setIfInBounds 7 (.int .u64 (d 7)) = wA d := by simp [wA]
  rw [e] at h7
  exact h7
theorem set8_below {w : World} {b : Nat} {d : Nat → Nat} {B : Nat} {a : World} (h : Below B a w) (hb : B ≤ b) : Below B a (set8 w b d) :=
  (((((((h.setCell hb _).setCell hb _).setCell hb _).setCell hb _).setCell hb _).setCell hb _).setCell hb _).setCell hb _
theorem setRow_row {w : World} {b : Nat} {c : Nat → Nat} (h : RowW w b c) (d : Nat → Nat) : RowW (w.setRow b (wA d)) b d := setRow_heap w b (wA c) _ _ (0, 0) h
theorem setRow_row' {w : World} {b b' : Nat} {c : Nat → Nat} (h : RowW w b' c) (hb : b' ≠ b) (x : Array Value) : RowW (w.setRow b x) b' c := (setRow_other w b b' x hb).trans h
theorem setRow_below {w : World} {b B : Nat} {a : World} (h : Below B a w) (hb : B ≤ b) (x : Array Value) : Below B a (w.setRow b x) :=
  h.trans ⟨rfl, rfl, rfl, by simp, fun k hk => setRow_other w b k x (by omega)⟩

def oneW (k : Nat) : Nat := if k = 0 then 1 else 0
theorem isW_one : IsW oneW 1 := ⟨fun k => by unfold oneW; split <;> decide, by simp [valW, oneW]⟩

theorem pow_top {n k : Nat} (hn : n ≤ 2147483648) (hk : k + 1 ≤ 16) : n ^ k * n < topW 8 := by
  rw [← Nat.pow_succ]
  have h1 : n ^ (k + 1) ≤ 2147483648 ^ (k + 1) := Nat.pow_le_pow_left hn _
  have h2 : 2147483648 ^ (k + 1) ≤ 2147483648 ^ 16 := Nat.pow_le_pow_right (by decide) hk
  exact Nat.lt_of_le_of_lt (Nat.le_trans h1 h2) (by decide +kernel)

set_option maxRecDepth 100000 in
set_option maxHeartbeats 4000000 in
theorem power_any (n : Nat) (hn : n ≤ 2147483648) (w : World) :
    Calls Tryz.prog 65 #[.int .u64 n] w fun e w' => (∃ c, IsW c (n ^ 16) ∧ e = .returned (.agg (wA c))) ∧ Below w.heap.size w w' := by
  have HN := Lib.hid hn; clear hn
  go_enter Tryz.func65, Tryz.ntmps65
  go_wp2
  go_loopg [5] 16 (fun g s5 wr => ∃ (k : Nat) (c : Nat → Nat), k ≤ 16 ∧ 16 - k ≤ g ∧ s5 = .int .i64 k ∧ Hid (IsW c (n ^ k)) ∧ Hid (Below w.heap.size w wr) ∧ Hid (RowW wr (w.heap.size + 1) c) ∧ Hid (RowW wr w.heap.size fun _ => 0) ∧ Hid (w.heap.size + 2 ≤ wr.heap.size))
  case atStart => exact ⟨0, oneW, by omega, by omega, rfl, Lib.hid isW_one, Lib.hid (((Below.refl _ _).alloc (Nat.le_refl _) _).alloc (by simp) _), Lib.hid (row_new2 w _ oneW), Lib.hid (row_new1 w _ fun _ => 0), Lib.hid (by simp)⟩
  case round =>
    obtain ⟨k, c, hk, hg, rfl, HI, HB, HR, HR0, HS⟩ := hrel
    obtain ⟨r0, r1, r2, r3, r4, r5, r6, r7⟩ := HR.out.cells
    by_cases h : k < 16
    · have hk' : (k : Int) < 16 := by omega
      have ht := times_w HI.out n (by have := HN.out; omega)
      go_wp2_with fail
      refine (ht _).mono ?_
      rintro e w' ⟨rfl, hb'⟩
      have HB' := Lib.hid hb'
      have HR' := Lib.hid (HR.out.below hb' (by have := HS.out; omega))
      have HR0' := Lib.hid (HR0.out.below hb' (by have := HS.out; omega))
      clear hb'
      have hst := store8 HR'.out (dig c n)
      have hsz : (wA (dig c n)).size = 8 := rfl
      go_wp2
      go_roundg (16 - (k + 1))
      case measure => omega
      case rel => exact ⟨k + 1, dig c n, by omega, by omega, by go_num, Lib.hid (by rw [Nat.pow_succ]; exact HI.out.dig n (pow_top HN.out (by omega))), Lib.hid (setRow_below (HB.out.trans (HB'.out.mono HB.out.size)) (by omega) _), Lib.hid (setRow_row HR'.out _), Lib.hid (setRow_row' HR0'.out (by omega) _), Lib.hid (by have := HS.out; have := HB'.out.size; simp; omega)⟩
    · obtain rfl : k = 16 := by omega
      obtain ⟨z0, z1, z2, z3, z4, z5, z6, z7⟩ := HR0.out.cells
      have f := HR0.out.frozen
      go_wp2
      exact bodyPost_ret (results_cell_row Tryz.results65 _ _ w.heap.size 113 (wA c) (0, 0) _ rfl (set8_row HR0.out c) Tryz.underlying113 rfl (by kernel_rfl)) rfl ⟨⟨c, HI.out, rfl⟩, set8_below HB.out (Nat.le_refl _)⟩
end Go.Proofs.YtnognphjndpgkaaGreatDoor

/- How many steps lie between two numbers. -/

namespace Go.Proofs.YtnognphjndpgkaaGreatDoor
open Go.RowKit

/-- Two new variables of eight words, and what is laid into them. -/
theorem two_vars (w : World) (ca cb : Nat → Nat) : ∃ w4 w5 : World,
    (storeCells ⟨w.heap.size, 0, none⟩ (wA ca).toList 0).run Tryz.prog ((w.alloc (.cells #[.int .u64 0, .int .u64 0, .int .u64 0, .int .u64 0, .int .u64 0, .int .u64 0, .int .u64 0, .int .u64 0] 113)).alloc (.cells #[.int .u64 0, .int .u64 0, .int .u64 0, .int .u64 0, .int .u64 0, .int .u64 0, .int .u64 0, .int .u64 0] 113)) = .ok () w4 ∧
    (storeCells ⟨w.heap.size + 1, 0, none⟩ (wA cb).toList 0).run Tryz.prog w4 = .ok () w5 ∧
    Hid (RowW w5 w.heap.size ca) ∧ Hid (RowW w5 (w.heap.size + 1) cb) ∧ Hid (Below w.heap.size w w5) ∧ Hid (w5.heap.size = w.heap.size + 2) := by
  have r1 := row_new1 w (.cells (wA fun _ => 0) 113) fun _ => 0
  have r2 := row_new2 w (.cells (wA fun _ => 0) 113) fun _ => 0
  have hb : Below w.heap.size w ((w.alloc (.cells (wA fun _ => 0) 113)).alloc (.cells (wA fun _ => 0) 113)) := ((Below.refl _ _).alloc (Nat.le_refl _) _).alloc (by simp) _
  have r4 := setRow_row' r2 (b := w.heap.size) (by omega) (wA ca)
  refine ⟨_, _, store8 r1 ca, store8 r4 cb, Lib.hid (setRow_row' (setRow_row r1 ca) (by omega) _), Lib.hid (setRow_row r4 cb), Lib.hid (setRow_below (setRow_below hb (Nat.le_refl _) _) (by omega) _), Lib.hid (by simp)⟩

theorem twice_top {a x : Nat} (ha : a ≤ 2147483648) (hx : x ≤ a ^ 16) : x * 2 < topW 8 := by
  have h1 : a ^ 16 ≤ 2147483648 ^ 16 := Nat.pow_le_pow_left ha _
  have h2 : x * 2 ≤ 2147483648 ^ 16 * 2 := Nat.mul_le_mul_right 2 (Nat.le_trans hx h1)
  exact Nat.lt_of_le_of_lt h2 (by decide +kernel)

set_option maxRecDepth 100000 in
set_option maxHeartbeats 4000000 in
theorem part_any (a b : Nat) (hb : 1 ≤ b) (hab : b ≤ a) (ha : a ≤ 2147483648) (w : World) :
    Calls Tryz.prog 45 #[.int .u64 a, .int .u64 b] w fun e w' => e = .returned (.int .i64 (rat a b)) ∧ Below w.heap.size w w' := by
  have HB := Lib.hid hb; clear hb
  have HAB := Lib.hid hab; clear hab
  have HA := Lib.hid ha; clear ha
  go_enter Tryz.func45, Tryz.ntmps45
  have hp1 := power_any a HA.out
  have hp2 := power_any b (Nat.le_trans HAB.out HA.out)
  go_wp2_with fail
  refine (hp1 _).mono ?_
  rintro e w1 ⟨⟨ca, ia, rfl⟩, b1⟩
  have IA := Lib.hid ia; clear ia
  have B1 := Lib.hid b1; clear b1
  go_wp2_with fail
  refine (hp2 _).mono ?_
  rintro e w2 ⟨⟨cb, ib, rfl⟩, b2⟩
  have IB := Lib.hid ib; clear ib
  have B2 := Lib.hid (B1.out.trans (b2.mono B1.out.size)); clear b2
  have ht := times_w IB.out 2 (by decide)
  go_wp2_with fail
  refine (ht _).mono ?_
  rintro e w3 ⟨rfl, b3⟩
  have B3 := Lib.hid (B2.out.trans (b3.mono B2.out.size)); clear b3
  clear ht hp1 hp2 B1 B2
  obtain ⟨w4, w5, s4, s5, R6, R7, B5, Z5⟩ := two_vars w3 ca (dig cb 2)
  have z1 : (wA ca).size = 8 := rfl
  have z2 : (wA (dig cb 2)).size = 8 := rfl
  go_wp2
  clear s4 s5 z1 z2
  obtain ⟨b6, hb6⟩ : ∃ b6, b6 = w3.heap.size := ⟨_, rfl⟩
  rw [← hb6] at R6 R7 B5 Z5 ⊢
  have HL : Hid (w.heap.size ≤ b6) := Lib.hid (by rw [hb6]; exact B3.out.size)
  have HB5 : Hid (Below w.heap.size w w5) := Lib.hid (B3.out.trans (B5.out.mono HL.out))
  have HI : Hid (IsW (dig cb 2) (2 ^ (0 + 1) * b ^ 16)) := Lib.hid (by rw [Nat.mul_comm]; exact IB.out.dig 2 (twice_top (a := b) (Nat.le_trans HAB.out HA.out) (Nat.le_refl _)))
  have HE : Hid (2 ^ 0 * b ^ 16 ≤ a ^ 16) := Lib.hid (by rw [Nat.pow_zero, Nat.one_mul]; exact Nat.pow_le_pow_left HAB.out 16)
  clear B3 B5 hb6
  go_loopg [5] 497 (fun g s5 wr => ∃ (k : Nat) (c : Nat → Nat), k ≤ 496 ∧ 497 - k ≤ g ∧ s5 = .int .i64 k ∧ Hid (IsW c (2 ^ (k + 1) * b ^ 16)) ∧ Hid (2 ^ k * b ^ 16 ≤ a ^ 16) ∧ Hid (Below w.heap.size w wr) ∧ Hid (RowW wr b6 ca) ∧ Hid (RowW wr (b6 + 1) c) ∧ Hid (b6 + 2 ≤ wr.heap.size))
  case atStart => exact ⟨0, _, by omega, by omega, rfl, HI, HE, HB5, R6, R7, Lib.hid (by have := Z5.out; omega)⟩
  case round =>
    clear R6 R7 Z5 HB5 HI HE
    obtain ⟨k, c, hk, hg, rfl, HI, HE, HBL, R6, R7, Z5⟩ := hrel
    obtain ⟨p0, p1, p2, p3, p4, p5, p6, p7⟩ := R6.out.cells
    obtain ⟨r0, r1, r2, r3, r4, r5, r6, r7⟩ := R7.out.cells
    have hx := exceeds_any c ca
    have HG : Hid (gtW c ca 8 = decide (a ^ 16 < 2 ^ (k + 1) * b ^ 16)) := Lib.hid (by rw [gtW_iff c ca HI.out.1 IA.out.1, HI.out.2, IA.out.2])
    obtain ⟨t, ht⟩ : ∃ t, gtW c ca 8 = t := ⟨_, rfl⟩
    rw [ht] at HG
    rw [ht] at hx
    clear ht
    go_wp2_with fail
    refine (hx _).mono ?_
    rintro e w6 ⟨rfl, b6'⟩
    have HR6 := Lib.hid (R6.out.below b6' (by have := Z5.out; omega))
    have HR7 := Lib.hid (R7.out.below b6' (by have := Z5.out; omega))
    have HBM := Lib.hid (HBL.out.trans (b6'.mono HBL.out.size))
    have Z6 : Hid (b6 + 2 ≤ w6.heap.size) := Lib.hid (Nat.le_trans Z5.out b6'.size)
    clear b6' p0 p1 p2 p3 p4 p5 p6 p7 r0 r1 r2 r3 r4 r5 r6 r7 hx
    cases t with
    | true =>
      go_wp2
      go_ret
      exact ⟨ret_int (by rw [rat_eq HB.out HAB.out HE.out (of_decide_eq_true HG.out.symm)]), HBM.out⟩
    | false =>
      have HE2 : Hid (2 ^ (k + 1) * b ^ 16 ≤ a ^ 16) := Lib.hid (Nat.not_lt.1 (of_decide_eq_false HG.out.symm))
      have hk2 : k + 1 ≤ 496 := Nat.le_trans ((le_rat HB.out HAB.out).2 HE2.out) (rat_bound HB.out HAB.out HA.out)
      obtain ⟨r0, r1, r2, r3, r4, r5, r6, r7⟩ := HR7.out.cells
      have htm := times_w HI.out 2 (by decide)
      go_wp2_with fail
      refine (htm _).mono ?_
      rintro e w7 ⟨rfl, b7'⟩
      have HR6' := Lib.hid (HR6.out.below b7' (by have := Z6.out; omega))
      have HR7' := Lib.hid (HR7.out.below b7' (by have := Z6.out; omega))
      have HBN := Lib.hid (HBM.out.trans (b7'.mono HBM.out.size))
      have Z7 : Hid (b6 + 2 ≤ w7.heap.size) := Lib.hid (Nat.le_trans Z6.out b7'.size)
      clear b7' htm r0 r1 r2 r3 r4 r5 r6 r7
      have hst := store8 HR7'.out (dig c 2)
      have hsz : (wA (dig c 2)).size = 8 := rfl
      go_wp2
      go_roundg (497 - (k + 1))
      case measure => omega
      case rel => exact ⟨k + 1, dig c 2, by omega, by omega, by go_num, Lib.hid (by have := HI.out.dig 2 (twice_top HA.out HE2.out); rw [Nat.mul_right_comm, ← Nat.pow_succ] at this; exact this), HE2, Lib.hid (setRow_below HBN.out (by have := HL.out; omega) _), Lib.hid (setRow_row' HR6'.out (by omega) _), Lib.hid (setRow_row HR7'.out _), Lib.hid (by have := Z7.out; simp; omega)⟩
end Go.Proofs.YtnognphjndpgkaaGreatDoor

/- Ratio: how often a sixteenth of a doubling fits between two numbers. -/
namespace Go.Proofs.YtnognphjndpgkaaGreatDoor
open Go.RowKit

set_option maxRecDepth 100000 in
set_option maxHeartbeats 4000000 in
theorem ratio_ok (a b : Nat) (hb : 1 ≤ b) (hab : b ≤ a) (ha : a ≤ 2147483648) (w : World) :
    Calls Tryz.prog 29 #[.int .i64 a, .int .i64 b] w fun e w' => e = .returned (.tuple #[.int .i64 (rat a b), .int .i64 0]) ∧ Below w.heap.size w w' := by
  have g1 : ¬ ((b : Int) < 1) := by omega
  have g2 : ¬ ((a : Int) < (b : Int)) := by omega
  have g3 : ¬ ((2147483648 : Int) < (a : Int)) := by omega
  have t1 : decide ((b : Int) < 1) = false := by simp; omega
  have t2 : decide ((a : Int) < (b : Int)) = false := by simp; omega
  have t2' : decide (a < b) = false := by simp; omega
  have t3 : decide ((2147483648 : Int) < (a : Int)) = false := by simp; omega
  have HB := Lib.hid hb; clear hb
  have HAB := Lib.hid hab; clear hab
  have HA := Lib.hid ha; clear ha
  go_enter Tryz.func29, Tryz.ntmps29
  go_wp2
  go_step3
  go_wp2
  go_step3
  go_wp2
  go_loopg [1, 6] a (fun g s1 s6 wr => ∃ (c k : Nat), s1 = .int .i64 c ∧ s6 = .int .i64 k ∧ c ≤ a ∧ a - c ≤ g ∧ Hid (1 ≤ c) ∧ Hid (rat a b = rat a c + k) ∧ wr = w)
  case atStart => exact ⟨b, 0, rfl, rfl, HAB.out, by omega, HB, Lib.hid rfl, rfl⟩
  case round =>
    obtain ⟨c, k, rfl, rfl, hca, hg, HC, HR, rfl⟩ := hrel
    have hk : k ≤ 496 := by have := HR.out; have := rat_bound HB.out HAB.out HA.out; omega
    by_cases h : a / 2 < c
    · have hp := part_any a c HC.out hca HA.out
      obtain ⟨r, hr⟩ : ∃ r, rat a c = r := ⟨_, rfl⟩
      have hr2 : r ≤ 496 := by rw [← hr]; exact rat_bound HC.out hca HA.out
      rw [hr] at hp HR
      clear hr
      go_wp2_with fail
      refine (hp _).mono ?_
      rintro e w6 ⟨rfl, b6⟩
      have B6 := Lib.hid b6; clear b6
      go_wp2
      rw [Exit.noGoto_ret]
      go_ret2
      exact ⟨by rw [HR.out]; congr 4; go_num, B6.out⟩
    · have h' : ¬ ((a : Int) / 2 < (c : Int)) := by omega
      have hc2 : 2 * c ≤ a := by omega
      have ha2 : a ≤ 2147483648 := HA.out
      go_wp2
      go_roundg (a - 2 * c)
      case measure => have := HC.out; omega
      case rel => exact ⟨2 * c, k + 16, by go_num, by go_num, hc2, by omega, Lib.hid (by have := HC.out; omega), Lib.hid (by rw [HR.out, rat_half HC.out hc2]; omega), rfl⟩

set_option maxRecDepth 100000 in
set_option maxHeartbeats 4000000 in
theorem ratio_err (a b : Int) (h : b < 1 ∨ a < b ∨ 2147483648 < a) (w : World) :
    Calls Tryz.prog 29 #[.int .i64 a, .int .i64 b] w fun e w' => e = .returned (.tuple #[.int .i64 0, .int .i64 2]) ∧ Below w.heap.size w w' := by
  have hq : (decide (b < 1) || decide (a < b) || decide (2147483648 < a)) = true := by
    rcases h with h | h | h <;> simp [h]
  by_cases h1 : b < 1
  · go_enter Tryz.func29, Tryz.ntmps29
    go_wp2
    go_step3
    go_wp2
    rw [Exit.noGoto_ret]
    go_ret2
    exact ⟨rfl, Below.refl _ _⟩
  · by_cases h2 : a < b
    · go_enter Tryz.func29, Tryz.ntmps29
      go_wp2
      go_step3
      go_wp2
      rw [Exit.noGoto_ret]
      go_ret2
      exact ⟨rfl, Below.refl _ _⟩
    · have h3 : 2147483648 < a := by omega
      go_enter Tryz.func29, Tryz.ntmps29
      go_wp2
      go_step3
      go_wp2
      rw [Exit.noGoto_ret]
      go_ret2
      exact ⟨rfl, Below.refl _ _⟩
end Go.Proofs.YtnognphjndpgkaaGreatDoor

/- Cost and Sum. -/
namespace Go.Proofs.YtnognphjndpgkaaGreatDoor
open Go.RowKit

/-- What something costs. -/
def costN (t k n : Nat) : Nat := min (max (rat (t + k) (n + 1)) 1) 255

set_option maxRecDepth 100000 in
set_option maxHeartbeats 4000000 in
theorem cost_ok (t k n : Nat) (ht : t ≤ 1073741824) (hk1 : 1 ≤ k) (hk : k ≤ 4096) (hn : n ≤ t) (w : World) :
    Calls Tryz.prog 14 #[.int .i64 t, .int .i64 k, .int .i64 n] w fun e w' => e = .returned (.tuple #[.int .i64 (costN t k n), .int .i64 0]) ∧ Below w.heap.size w w' := by
  have hr := ratio_ok (t + k) (n + 1) (by omega) (by omega) (by omega)
  obtain ⟨r, hr0⟩ : ∃ r, rat (t + k) (n + 1) = r := ⟨_, rfl⟩
  have hr2 : r ≤ 496 := by rw [← hr0]; exact rat_bound (by omega) (by omega) (by omega)
  rw [hr0] at hr
  have HC : Hid (costN t k n = min (max r 1) 255) := Lib.hid (by rw [costN, hr0])
  clear hr0
  have t1 : decide ((t : Int) < 0) = false := decide_eq_false (by omega)
  have t2 : decide ((1073741824 : Int) < (t : Int)) = false := decide_eq_false (by omega)
  have t3 : decide ((k : Int) < 1) = false := decide_eq_false (by omega)
  have t4 : decide ((4096 : Int) < (k : Int)) = false := decide_eq_false (by omega)
  have t5 : decide ((n : Int) < 0) = false := decide_eq_false (by omega)
  have t6 : decide ((t : Int) < (n : Int)) = false := decide_eq_false (by omega)
  have t6' : decide (t < n) = false := decide_eq_false (by omega)
  go_enter Tryz.func14, Tryz.ntmps14
  go_wp2_with fail
  refine (hr _).mono ?_
  rintro e w1 ⟨rfl, b1⟩
  have B1 := Lib.hid b1; clear b1
  by_cases c1 : r < 1
  · have e0 : r = 0 := by omega
    subst e0
    go_wp2
    go_ret2
    exact ⟨by rw [HC.out]; rfl, B1.out⟩
  · by_cases c2 : 255 < r
    · have c1' : ¬ ((r : Int) < 1) := by omega
      have c2' : (255 : Int) < (r : Int) := by omega
      go_wp2
      go_ret2
      exact ⟨by rw [HC.out, show min (max r 1) 255 = 255 by omega]; first | rfl | exact (show Ending.returned (Value.tuple #[.int .i64 (min (max (r : Int) 1) 255), .int .i64 0]) = _ from by rw [show min (max (r : Int) 1) 255 = ((255 : Nat) : Int) by omega]), B1.out⟩
    · have c1' : ¬ ((r : Int) < 1) := by omega
      have c2' : ¬ ((255 : Int) < (r : Int)) := by omega
      go_wp2
      go_ret2
      exact ⟨by rw [HC.out, show min (max r 1) 255 = r by omega]; first | rfl | exact (show Ending.returned (Value.tuple #[.int .i64 (min (max (r : Int) 1) 255), .int .i64 0]) = _ from by rw [show min (max (r : Int) 1) 255 = ((r : Nat) : Int) by omega]), B1.out⟩

/-- What Cost asks of its numbers. -/
def costOK (t k n : Int) : Bool := decide (0 ≤ t) && decide (t ≤ 1073741824) && decide (1 ≤ k) && decide (k ≤ 4096) && decide (0 ≤ n) && decide (n ≤ t)

set_option maxRecDepth 100000 in
set_option maxHeartbeats 4000000 in
theorem cost_err (t k n : Int) (h : t < 0 ∨ 1073741824 < t ∨ k < 1 ∨ 4096 < k ∨ n < 0 ∨ t < n) (w : World) :
    Calls Tryz.prog 14 #[.int .i64 t, .int .i64 k, .int .i64 n] w fun e w' => e = .returned (.tuple #[.int .i64 0, .int .i64 2]) ∧ w' = w := by
  by_cases h1 : t < 0
  · go_enter Tryz.func14, Tryz.ntmps14
    go_wp2
    go_ret2
    exact ⟨rfl, rfl⟩
  by_cases h2 : 1073741824 < t
  · go_enter Tryz.func14, Tryz.ntmps14
    go_wp2
    go_ret2
    exact ⟨rfl, rfl⟩
  by_cases h3 : k < 1
  · go_enter Tryz.func14, Tryz.ntmps14
    go_wp2
    go_ret2
    exact ⟨rfl, rfl⟩
  by_cases h4 : 4096 < k
  · go_enter Tryz.func14, Tryz.ntmps14
    go_wp2
    go_ret2
    exact ⟨rfl, rfl⟩
  by_cases h5 : n < 0
  · go_enter Tryz.func14, Tryz.ntmps14
    go_wp2
    go_ret2
    exact ⟨rfl, rfl⟩
  · have h6 : t < n := by omega
    clear h
    go_enter Tryz.func14, Tryz.ntmps14
    go_wp2
    go_ret2
    exact ⟨rfl, rfl⟩

end Go.Proofs.YtnognphjndpgkaaGreatDoor

