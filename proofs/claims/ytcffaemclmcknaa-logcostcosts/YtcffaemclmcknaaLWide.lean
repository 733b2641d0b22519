/- Numbers of eight words: what they are worth; the greater of two. -/
import Derived.Test.YtcffaemclmcknaaLTimes
namespace Go.Proofs.Ytcffaemclmcknaa
open Go.RowKit

/-- What the first k words are worth. -/
def valW (c : Nat → Nat) : Nat → Nat
  | 0 => 0
  | k + 1 => valW c k + c k * 18446744073709551616 ^ k
/-- Eight words of which each is one, and what they are worth. -/
def IsW (c : Nat → Nat) (v : Nat) : Prop := (∀ k, c k < 18446744073709551616) ∧ valW c 8 = v

theorem valW_lt (c : Nat → Nat) (hc : ∀ k, c k < 18446744073709551616) (k : Nat) : valW c k < 18446744073709551616 ^ k := by
  induction k with
  | zero => simp [valW]
  | succ k ih =>
    have h1 : c k * 18446744073709551616 ^ k ≤ 18446744073709551615 * 18446744073709551616 ^ k := Nat.mul_le_mul_right _ (by have := hc k; omega)
    rw [valW, Nat.pow_succ]
    generalize c k * 18446744073709551616 ^ k = x at *
    generalize 18446744073709551616 ^ k = y at *
    omega

theorem valW_dig (c : Nat → Nat) (n k : Nat) : valW (dig c n) k + crr c n k * 18446744073709551616 ^ k = valW c k * n := by
  induction k with
  | zero => simp [valW, crr]
  | succ k ih =>
    have e : c k * n + crr c n k = dig c n k + 18446744073709551616 * crr c n (k + 1) := by
      show _ = (c k * n + crr c n k) % 18446744073709551616 + 18446744073709551616 * ((c k * n + crr c n k) / 18446744073709551616)
      omega
    rw [valW, valW, Nat.add_mul, ← ih, Nat.pow_succ]
    have e2 : c k * 18446744073709551616 ^ k * n + crr c n k * 18446744073709551616 ^ k = (c k * n + crr c n k) * 18446744073709551616 ^ k := by
      rw [Nat.add_mul, Nat.mul_right_comm]
    have e3 : crr c n (k + 1) * (18446744073709551616 ^ k * 18446744073709551616) = 18446744073709551616 * crr c n (k + 1) * 18446744073709551616 ^ k := by
      rw [Nat.mul_comm (18446744073709551616 ^ k), ← Nat.mul_assoc, Nat.mul_comm (crr c n (k + 1))]
    rw [e, Nat.add_mul] at e2
    rw [e3]
    generalize 18446744073709551616 * crr c n (k + 1) * 18446744073709551616 ^ k = z at *
    generalize c k * 18446744073709551616 ^ k * n = y at *
    generalize crr c n k * 18446744073709551616 ^ k = u at *
    generalize dig c n k * 18446744073709551616 ^ k = t at *
    omega

theorem valW_dig_lt (c : Nat → Nat) (n k : Nat) (hv : valW c k * n < 18446744073709551616 ^ k) : valW (dig c n) k = valW c k * n := by
  have e := valW_dig c n k
  rcases Nat.eq_zero_or_pos (crr c n k) with h | h
  · rw [h] at e
    simpa using e
  · exfalso
    have h1 : 1 * 18446744073709551616 ^ k ≤ crr c n k * 18446744073709551616 ^ k := Nat.mul_le_mul_right _ h
    rw [Nat.one_mul] at h1
    generalize crr c n k * 18446744073709551616 ^ k = y at *
    generalize valW c k * n = z at *
    generalize 18446744073709551616 ^ k = t at *
    omega

/-- One more than eight words can hold. -/
def topW (k : Nat) : Nat := 18446744073709551616 ^ k

theorem IsW.dig {c : Nat → Nat} {v : Nat} (h : IsW c v) (n : Nat) (hv : v * n < topW 8) : IsW (dig c n) (v * n) := by
  obtain ⟨hc, rfl⟩ := h
  exact ⟨fun k => Nat.mod_lt _ (by decide), valW_dig_lt c n 8 hv⟩

/-- Is the first of two greater, by their first k words? -/
def gtW (c d : Nat → Nat) : Nat → Bool
  | 0 => false
  | k + 1 => if c k = d k then gtW c d k else decide (d k < c k)

theorem gtW_iff (c d : Nat → Nat) (hc : ∀ k, c k < 18446744073709551616) (hd : ∀ k, d k < 18446744073709551616) (k : Nat) : gtW c d k = decide (valW d k < valW c k) := by
  induction k with
  | zero => simp [gtW, valW]
  | succ k ih =>
    have h1 := valW_lt c hc k
    have h2 := valW_lt d hd k
    rw [gtW, valW, valW]
    by_cases e : c k = d k
    · rw [if_pos e, ih, e]
      simp
    · rw [if_neg e]
      by_cases hlt : d k < c k
      · have h3 : (d k + 1) * 18446744073709551616 ^ k ≤ c k * 18446744073709551616 ^ k := Nat.mul_le_mul_right _ hlt
        rw [Nat.add_mul] at h3
        generalize c k * 18446744073709551616 ^ k = x at *
        generalize d k * 18446744073709551616 ^ k = y at *
        generalize 18446744073709551616 ^ k = z at *
        rw [decide_eq_true hlt, decide_eq_true (by omega)]
      · have h3 : (c k + 1) * 18446744073709551616 ^ k ≤ d k * 18446744073709551616 ^ k := Nat.mul_le_mul_right _ (by omega)
        rw [Nat.add_mul] at h3
        generalize c k * 18446744073709551616 ^ k = x at *
        generalize d k * 18446744073709551616 ^ k = y at *
        generalize 18446744073709551616 ^ k = z at *
        rw [decide_eq_false hlt, decide_eq_false (by omega)]

theorem times_w {c : Nat → Nat} {v : Nat} (h : IsW c v) (n : Nat) (hn : n < 18446744073709551616) (w : World) :
    Calls Try.prog 22 #[.agg (wA c), .int .u64 n] w fun e w' => e = .returned (.agg (wA (dig c n))) ∧ Below w.heap.size w w' :=
  times_any c n h.1 hn w

set_option maxRecDepth 100000 in
set_option maxHeartbeats 4000000 in
theorem exceeds_any (c d : Nat → Nat) (w : World) :
    Calls Try.prog 23 #[.agg (wA c), .agg (wA d)] w fun e w' => e = .returned (.bool (gtW c d 8)) ∧ Below w.heap.size w w' := by
  simp only [wA]
  go_enter Try.func23, Try.ntmps23
  go_wp2
  go_loopg [5] 8 (fun g s5 wr => ∃ k q : Nat, k ≤ 8 ∧ k ≤ g ∧ s5 = .int .i64 ((k : Int) - 1) ∧ Hid (gtW c d 8 = gtW c d k) ∧ wr = ((w.alloc (.cells (wA c) 49)).alloc (.cells (wA d) 49)).drewN q)
  case atStart => exact ⟨8, 0, by omega, by omega, rfl, Lib.hid rfl, rfl⟩
  case round =>
    obtain ⟨k, q, hk, hg, rfl, HG, rfl⟩ := hrel
    have hk5 : k = 0 ∨ k = 1 ∨ k = 2 ∨ k = 3 ∨ k = 4 ∨ k = 5 ∨ k = 6 ∨ k = 7 ∨ k = 8 := by omega
    rcases hk5 with rfl | rfl | rfl | rfl | rfl | rfl | rfl | rfl | rfl
    · simp only [wA]
      go_wp2
      go_ret
      exact ⟨ret_bool HG.out.symm, below_draws (((Below.refl _ _).alloc (Nat.le_refl _) _).alloc (by simp) _) _⟩
    · have HS : Hid (gtW c d 1 = if c 0 = d 0 then gtW c d 0 else decide (d 0 < c 0)) := Lib.hid rfl
      obtain ⟨x, hx⟩ : ∃ x, x = c 0 := ⟨_, rfl⟩
      obtain ⟨y, hy⟩ : ∃ y, y = d 0 := ⟨_, rfl⟩
      rw [← hx, ← hy] at HS
      simp only [wA]
      rw [← hx, ← hy]
      by_cases e : x = y
      · have HG2 := Lib.hid (HG.out.trans (HS.out.trans (if_pos e)))
        have e1 : ((x : Int) == (y : Int)) = true := by rw [e]; simp
        have e2 : decide ((x : Int) = (y : Int)) = true := by rw [e]; simp
        have HE := Lib.hid e; clear e HS
        have HX := Lib.hid hx; clear hx
        have HY := Lib.hid hy; clear hy
        go_wp2
        go_quiet (fail)
        go_wp2
        rw [HX.out, HY.out]
        go_roundg 0
        case measure => omega
        case rel => exact ⟨0, _, by omega, by omega, by go_num, HG2, rfl⟩
      · have HG2 := Lib.hid (HG.out.trans (HS.out.trans (if_neg e)))
        clear hx hy HS
        have e' : ¬ (x : Int) = (y : Int) := by omega
        by_cases l : y < x
        · have l' : (y : Int) < (x : Int) := by omega
          go_wp2
          go_quiet (fail)
          go_wp2
          go_quiet (fail)
          go_wp2
          go_ret
          exact ⟨ret_bool (by rw [HG2.out]; simp [l]), below_draws (below_draws (below_draws (((Below.refl _ _).alloc (Nat.le_refl _) _).alloc (by simp) _) _) _) _⟩
        · have l' : ¬ (y : Int) < (x : Int) := by omega
          go_wp2
          go_quiet (fail)
          go_wp2
          go_quiet (fail)
          go_wp2
          go_ret
          exact ⟨ret_bool (by rw [HG2.out]; simp [l]), below_draws (below_draws (below_draws (((Below.refl _ _).alloc (Nat.le_refl _) _).alloc (by simp) _) _) _) _⟩
    · have HS : Hid (gtW c d 2 = if c 1 = d 1 then gtW c d 1 else decide (d 1 < c 1)) := Lib.hid rfl
      obtain ⟨x, hx⟩ : ∃ x, x = c 1 := ⟨_, rfl⟩
      obtain ⟨y, hy⟩ : ∃ y, y = d 1 := ⟨_, rfl⟩
      rw [← hx, ← hy] at HS
      simp only [wA]
      rw [← hx, ← hy]
      by_cases e : x = y
      · have HG2 := Lib.hid (HG.out.trans (HS.out.trans (if_pos e)))
        have e1 : ((x : Int) == (y : Int)) = true := by rw [e]; simp
        have e2 : decide ((x : Int) = (y : Int)) = true := by rw [e]; simp
        have HE := Lib.hid e; clear e HS
        have HX := Lib.hid hx; clear hx
        have HY := Lib.hid hy; clear hy
        go_wp2
        go_quiet (fail)
        go_wp2
        rw [HX.out, HY.out]
        go_roundg 1
        case measure => omega
        case rel => exact ⟨1, _, by omega, by omega, by go_num, HG2, rfl⟩
      · have HG2 := Lib.hid (HG.out.trans (HS.out.trans (if_neg e)))
        clear hx hy HS
        have e' : ¬ (x : Int) = (y : Int) := by omega
        by_cases l : y < x
        · have l' : (y : Int) < (x : Int) := by omega
          go_wp2
          go_quiet (fail)
          go_wp2
          go_quiet (fail)
          go_wp2
          go_ret
          exact ⟨ret_bool (by rw [HG2.out]; simp [l]), below_draws (below_draws (below_draws (((Below.refl _ _).alloc (Nat.le_refl _) _).alloc (by simp) _) _) _) _⟩
        · have l' : ¬ (y : Int) < (x : Int) := by omega
          go_wp2
          go_quiet (fail)
          go_wp2
          go_quiet (fail)
          go_wp2
          go_ret
          exact ⟨ret_bool (by rw [HG2.out]; simp [l]), below_draws (below_draws (below_draws (((Below.refl _ _).alloc (Nat.le_refl _) _).alloc (by simp) _) _) _) _⟩
    · have HS : Hid (gtW c d 3 = if c 2 = d 2 then gtW c d 2 else decide (d 2 < c 2)) := Lib.hid rfl
      obtain ⟨x, hx⟩ : ∃ x, x = c 2 := ⟨_, rfl⟩
      obtain ⟨y, hy⟩ : ∃ y, y = d 2 := ⟨_, rfl⟩
      rw [← hx, ← hy] at HS
      simp only [wA]
      rw [← hx, ← hy]
      by_cases e : x = y
      · have HG2 := Lib.hid (HG.out.trans (HS.out.trans (if_pos e)))
        have e1 : ((x : Int) == (y : Int)) = true := by rw [e]; simp
        have e2 : decide ((x : Int) = (y : Int)) = true := by rw [e]; simp
        have HE := Lib.hid e; clear e HS
        have HX := Lib.hid hx; clear hx
        have HY := Lib.hid hy; clear hy
        go_wp2
        go_quiet (fail)
        go_wp2
        rw [HX.out, HY.out]
        go_roundg 2
        case measure => omega
        case rel => exact ⟨2, _, by omega, by omega, by go_num, HG2, rfl⟩
      · have HG2 := Lib.hid (HG.out.trans (HS.out.trans (if_neg e)))
        clear hx hy HS
        have e' : ¬ (x : Int) = (y : Int) := by omega
        by_cases l : y < x
        · have l' : (y : Int) < (x : Int) := by omega
          go_wp2
          go_quiet (fail)
          go_wp2
          go_quiet (fail)
          go_wp2
          go_ret
          exact ⟨ret_bool (by rw [HG2.out]; simp [l]), below_draws (below_draws (below_draws (((Below.refl _ _).alloc (Nat.le_refl _) _).alloc (by simp) _) _) _) _⟩
        · have l' : ¬ (y : Int) < (x : Int) := by omega
          go_wp2
          go_quiet (fail)
          go_wp2
          go_quiet (fail)
          go_wp2
          go_ret
          exact ⟨ret_bool (by rw [HG2.out]; simp [l]), below_draws (below_draws (below_draws (((Below.refl _ _).alloc (Nat.le_refl _) _).alloc (by simp) _) _) _) _⟩
    · have HS : Hid (gtW c d 4 = if c 3 = d 3 then gtW c d 3 else decide (d 3 < c 3)) := Lib.hid rfl
      obtain ⟨x, hx⟩ : ∃ x, x = c 3 := ⟨_, rfl⟩
      obtain ⟨y, hy⟩ : ∃ y, y = d 3 := ⟨_, rfl⟩
      rw [← hx, ← hy] at HS
      simp only [wA]
      rw [← hx, ← hy]
      by_cases e : x = y
      · have HG2 := Lib.hid (HG.out.trans (HS.out.trans (if_pos e)))
        have e1 : ((x : Int) == (y : Int)) = true := by rw [e]; simp
        have e2 : decide ((x : Int) = (y : Int)) = true := by rw [e]; simp
        have HE := Lib.hid e; clear e HS
        have HX := Lib.hid hx; clear hx
        have HY := Lib.hid hy; clear hy
        go_wp2
        go_quiet (fail)
        go_wp2
        rw [HX.out, HY.out]
        go_roundg 3
        case measure => omega
        case rel => exact ⟨3, _, by omega, by omega, by go_num, HG2, rfl⟩
      · have HG2 := Lib.hid (HG.out.trans (HS.out.trans (if_neg e)))
        clear hx hy HS
        have e' : ¬ (x : Int) = (y : Int) := by omega
        by_cases l : y < x
        · have l' : (y : Int) < (x : Int) := by omega
          go_wp2
          go_quiet (fail)
          go_wp2
          go_quiet (fail)
          go_wp2
          go_ret
          exact ⟨ret_bool (by rw [HG2.out]; simp [l]), below_draws (below_draws (below_draws (((Below.refl _ _).alloc (Nat.le_refl _) _).alloc (by simp) _) _) _) _⟩
        · have l' : ¬ (y : Int) < (x : Int) := by omega
          go_wp2
          go_quiet (fail)
          go_wp2
          go_quiet (fail)
          go_wp2
          go_ret
          exact ⟨ret_bool (by rw [HG2.out]; simp [l]), below_draws (below_draws (below_draws (((Below.refl _ _).alloc (Nat.le_refl _) _).alloc (by simp) _) _) _) _⟩
    · have HS : Hid (gtW c d 5 = if c 4 = d 4 then gtW c d 4 else decide (d 4 < c 4)) := Lib.hid rfl
      obtain ⟨x, hx⟩ : ∃ x, x = c 4 := ⟨_, rfl⟩
      obtain ⟨y, hy⟩ : ∃ y, y = d 4 := ⟨_, rfl⟩
      rw [← hx, ← hy] at HS
      simp only [wA]
      rw [← hx, ← hy]
      by_cases e : x = y
      · have HG2 := Lib.hid (HG.out.trans (HS.out.trans (if_pos e)))
        have e1 : ((x : Int) == (y : Int)) = true := by rw [e]; simp
        have e2 : decide ((x : Int) = (y : Int)) = true := by rw [e]; simp
        have HE := Lib.hid e; clear e HS
        have HX := Lib.hid hx; clear hx
        have HY := Lib.hid hy; clear hy
        go_wp2
        go_quiet (fail)
        go_wp2
        rw [HX.out, HY.out]
        go_roundg 4
        case measure => omega
        case rel => exact ⟨4, _, by omega, by omega, by go_num, HG2, rfl⟩
      · have HG2 := Lib.hid (HG.out.trans (HS.out.trans (if_neg e)))
        clear hx hy HS
        have e' : ¬ (x : Int) = (y : Int) := by omega
        by_cases l : y < x
        · have l' : (y : Int) < (x : Int) := by omega
          go_wp2
          go_quiet (fail)
          go_wp2
          go_quiet (fail)
          go_wp2
          go_ret
          exact ⟨ret_bool (by rw [HG2.out]; simp [l]), below_draws (below_draws (below_draws (((Below.refl _ _).alloc (Nat.le_refl _) _).alloc (by simp) _) _) _) _⟩
        · have l' : ¬ (y : Int) < (x : Int) := by omega
          go_wp2
          go_quiet (fail)
          go_wp2
          go_quiet (fail)
          go_wp2
          go_ret
          exact ⟨ret_bool (by rw [HG2.out]; simp [l]), below_draws (below_draws (below_draws (((Below.refl _ _).alloc (Nat.le_refl _) _).alloc (by simp) _) _) _) _⟩
    · have HS : Hid (gtW c d 6 = if c 5 = d 5 then gtW c d 5 else decide (d 5 < c 5)) := Lib.hid rfl
      obtain ⟨x, hx⟩ : ∃ x, x = c 5 := ⟨_, rfl⟩
      obtain ⟨y, hy⟩ : ∃ y, y = d 5 := ⟨_, rfl⟩
      rw [← hx, ← hy] at HS
      simp only [wA]
      rw [← hx, ← hy]
      by_cases e : x = y
      · have HG2 := Lib.hid (HG.out.trans (HS.out.trans (if_pos e)))
        have e1 : ((x : Int) == (y : Int)) = true := by rw [e]; simp
        have e2 : decide ((x : Int) = (y : Int)) = true := by rw [e]; simp
        have HE := Lib.hid e; clear e HS
        have HX := Lib.hid hx; clear hx
        have HY := Lib.hid hy; clear hy
        go_wp2
        go_quiet (fail)
        go_wp2
        rw [HX.out, HY.out]
        go_roundg 5
        case measure => omega
        case rel => exact ⟨5, _, by omega, by omega, by go_num, HG2, rfl⟩
      · have HG2 := Lib.hid (HG.out.trans (HS.out.trans (if_neg e)))
        clear hx hy HS
        have e' : ¬ (x : Int) = (y : Int) := by omega
        by_cases l : y < x
        · have l' : (y : Int) < (x : Int) := by omega
          go_wp2
          go_quiet (fail)
          go_wp2
          go_quiet (fail)
          go_wp2
          go_ret
          exact ⟨ret_bool (by rw [HG2.out]; simp [l]), below_draws (below_draws (below_draws (((Below.refl _ _).alloc (Nat.le_refl _) _).alloc (by simp) _) _) _) _⟩
        · have l' : ¬ (y : Int) < (x : Int) := by omega
          go_wp2
          go_quiet (fail)
          go_wp2
          go_quiet (fail)
          go_wp2
          go_ret
          exact ⟨ret_bool (by rw [HG2.out]; simp [l]), below_draws (below_draws (below_draws (((Below.refl _ _).alloc (Nat.le_refl _) _).alloc (by simp) _) _) _) _⟩
    · have HS : Hid (gtW c d 7 = if c 6 = d 6 then gtW c d 6 else decide (d 6 < c 6)) := Lib.hid rfl
      obtain ⟨x, hx⟩ : ∃ x, x = c 6 := ⟨_, rfl⟩
      obtain ⟨y, hy⟩ : ∃ y, y = d 6 := ⟨_, rfl⟩
      rw [← hx, ← hy] at HS
      simp only [wA]
      rw [← hx, ← hy]
      by_cases e : x = y
      · have HG2 := Lib.hid (HG.out.trans (HS.out.trans (if_pos e)))
        have e1 : ((x : Int) == (y : Int)) = true := by rw [e]; simp
        have e2 : decide ((x : Int) = (y : Int)) = true := by rw [e]; simp
        have HE := Lib.hid e; clear e HS
        have HX := Lib.hid hx; clear hx
        have HY := Lib.hid hy; clear hy
        go_wp2
        go_quiet (fail)
        go_wp2
        rw [HX.out, HY.out]
        go_roundg 6
        case measure => omega
        case rel => exact ⟨6, _, by omega, by omega, by go_num, HG2, rfl⟩
      · have HG2 := Lib.hid (HG.out.trans (HS.out.trans (if_neg e)))
        clear hx hy HS
        have e' : ¬ (x : Int) = (y : Int) := by omega
        by_cases l : y < x
        · have l' : (y : Int) < (x : Int) := by omega
          go_wp2
          go_quiet (fail)
          go_wp2
          go_quiet (fail)
          go_wp2
          go_ret
          exact ⟨ret_bool (by rw [HG2.out]; simp [l]), below_draws (below_draws (below_draws (((Below.refl _ _).alloc (Nat.le_refl _) _).alloc (by simp) _) _) _) _⟩
        · have l' : ¬ (y : Int) < (x : Int) := by omega
          go_wp2
          go_quiet (fail)
          go_wp2
          go_quiet (fail)
          go_wp2
          go_ret
          exact ⟨ret_bool (by rw [HG2.out]; simp [l]), below_draws (below_draws (below_draws (((Below.refl _ _).alloc (Nat.le_refl _) _).alloc (by simp) _) _) _) _⟩
    · have HS : Hid (gtW c d 8 = if c 7 = d 7 then gtW c d 7 else decide (d 7 < c 7)) := Lib.hid rfl
      obtain ⟨x, hx⟩ : ∃ x, x = c 7 := ⟨_, rfl⟩
      obtain ⟨y, hy⟩ : ∃ y, y = d 7 := ⟨_, rfl⟩
      rw [← hx, ← hy] at HS
      simp only [wA]
      rw [← hx, ← hy]
      by_cases e : x = y
      · have HG2 := Lib.hid (HG.out.trans (HS.out.trans (if_pos e)))
        have e1 : ((x : Int) == (y : Int)) = true := by rw [e]; simp
        have e2 : decide ((x : Int) = (y : Int)) = true := by rw [e]; simp
        have HE := Lib.hid e; clear e HS
        have HX := Lib.hid hx; clear hx
        have HY := Lib.hid hy; clear hy
        go_wp2
        go_quiet (fail)
        go_wp2
        rw [HX.out, HY.out]
        go_roundg 7
        case measure => omega
        case rel => exact ⟨7, _, by omega, by omega, by go_num, HG2, rfl⟩
      · have HG2 := Lib.hid (HG.out.trans (HS.out.trans (if_neg e)))
        clear hx hy HS
        have e' : ¬ (x : Int) = (y : Int) := by omega
        by_cases l : y < x
        · have l' : (y : Int) < (x : Int) := by omega
          go_wp2
          go_quiet (fail)
          go_wp2
          go_quiet (fail)
          go_wp2
          go_ret
          exact ⟨ret_bool (by rw [HG2.out]; simp [l]), below_draws (below_draws (below_draws (((Below.refl _ _).alloc (Nat.le_refl _) _).alloc (by simp) _) _) _) _⟩
        · have l' : ¬ (y : Int) < (x : Int) := by omega
          go_wp2
          go_quiet (fail)
          go_wp2
          go_quiet (fail)
          go_wp2
          go_ret
          exact ⟨ret_bool (by rw [HG2.out]; simp [l]), below_draws (below_draws (below_draws (((Below.refl _ _).alloc (Nat.le_refl _) _).alloc (by simp) _) _) _) _⟩
end Go.Proofs.Ytcffaemclmcknaa
