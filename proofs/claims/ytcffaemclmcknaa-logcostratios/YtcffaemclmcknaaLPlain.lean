/- How often a sixteenth of a doubling fits between two numbers: plain. -/
namespace Go.Proofs.Ytcffaemclmcknaa

/-- The greatest k such that 2^k times b^16 isn't greater than a^16. -/
def rat (a b : Nat) : Nat := Nat.log2 (a ^ 16 / b ^ 16)

theorem le_rat {a b k : Nat} (hb : 1 ≤ b) (hab : b ≤ a) : k ≤ rat a b ↔ 2 ^ k * b ^ 16 ≤ a ^ 16 := by
  have hb16 : 0 < b ^ 16 := Nat.pow_pos hb
  have h1 : b ^ 16 ≤ a ^ 16 := Nat.pow_le_pow_left hab 16
  have hne : a ^ 16 / b ^ 16 ≠ 0 := by
    have := (Nat.le_div_iff_mul_le hb16).2 (show 1 * b ^ 16 ≤ a ^ 16 by rw [Nat.one_mul]; exact h1)
    omega
  unfold rat
  rw [Nat.le_log2 hne, Nat.le_div_iff_mul_le hb16]

theorem rat_eq {a b k : Nat} (hb : 1 ≤ b) (hab : b ≤ a) (h1 : 2 ^ k * b ^ 16 ≤ a ^ 16) (h2 : a ^ 16 < 2 ^ (k + 1) * b ^ 16) : rat a b = k := by
  have g1 := (le_rat hb hab).2 h1
  have g2 : ¬ (k + 1 ≤ rat a b) := fun h => Nat.not_le.2 h2 ((le_rat hb hab).1 h)
  omega

theorem rat_le {a b : Nat} (hb : 1 ≤ b) (hab : b ≤ a) : 2 ^ rat a b * b ^ 16 ≤ a ^ 16 := (le_rat hb hab).1 (Nat.le_refl _)
theorem rat_lt {a b : Nat} (hb : 1 ≤ b) (hab : b ≤ a) : a ^ 16 < 2 ^ (rat a b + 1) * b ^ 16 := by
  have := (le_rat (k := rat a b + 1) hb hab)
  by_cases h : 2 ^ (rat a b + 1) * b ^ 16 ≤ a ^ 16
  · have := this.2 h; omega
  · omega

theorem pow31 {a m : Nat} (h : a ≤ 2147483648) : a ^ m ≤ 2 ^ (31 * m) := by
  rw [Nat.pow_mul]
  exact Nat.pow_le_pow_left h m
theorem le31 {x m : Nat} (h : 2 ^ x ≤ 2 ^ (31 * m)) : x ≤ 31 * m := (Nat.pow_le_pow_iff_right (by decide)).1 h

/-- Steps of one sixteenth, from a bound on the number. -/
theorem rat_bound {a b : Nat} (hb : 1 ≤ b) (hab : b ≤ a) (ha : a ≤ 2147483648) : rat a b ≤ 496 := by
  have h := rat_le hb hab
  have h1 := pow31 (m := 16) ha
  have h2 : 2 ^ rat a b * 1 ≤ 2 ^ rat a b * b ^ 16 := Nat.mul_le_mul_left _ (Nat.pow_pos hb)
  rw [Nat.mul_one] at h2
  exact le31 (m := 16) (Nat.le_trans h2 (Nat.le_trans h h1))

theorem rat_congr {a b c d : Nat} {n : Nat} (hb : 1 ≤ b) (hab : b ≤ a) (hd : 1 ≤ d) (hdc : d ≤ c) (h : ∀ k, 2 ^ (k + n) * d ^ 16 ≤ c ^ 16 ↔ 2 ^ k * b ^ 16 ≤ a ^ 16) : rat c d = rat a b + n := by
  have e : ∀ k, k + n ≤ rat c d ↔ k ≤ rat a b := fun k => by rw [le_rat hd hdc, le_rat hb hab]; exact h k
  have g1 := (e (rat a b)).2 (Nat.le_refl _)
  have g2 := e (rat c d - n)
  omega

theorem rat_double {a b : Nat} (hb : 1 ≤ b) (hab : b ≤ a) : rat (2 * a) b = rat a b + 16 := by
  refine rat_congr hb hab hb (by omega) fun k => ?_
  rw [Nat.mul_pow, Nat.pow_add, Nat.mul_right_comm, Nat.mul_comm (2 ^ 16) (a ^ 16)]
  exact Nat.mul_le_mul_right_iff (by decide)

/-- The second number doubled: sixteen less. -/
theorem rat_half {a b : Nat} (hb : 1 ≤ b) (hab : 2 * b ≤ a) : rat a b = rat a (2 * b) + 16 := by
  refine rat_congr (by omega) hab hb (by omega) fun k => ?_
  rw [Nat.mul_pow, Nat.pow_add, Nat.mul_assoc]

theorem rat_mul {a b m : Nat} (hb : 1 ≤ b) (hab : b ≤ a) (hm : 1 ≤ m) : rat (m * a) (m * b) = rat a b := by
  refine (rat_congr (n := 0) hb hab (Nat.mul_pos hm hb) (Nat.mul_le_mul_left m hab) fun k => ?_)
  rw [Nat.mul_pow, Nat.mul_pow, Nat.add_zero, Nat.mul_left_comm]
  exact Nat.mul_le_mul_left_iff (Nat.pow_pos hm)

theorem rat_self {b : Nat} (hb : 1 ≤ b) : rat b b = 0 := by
  refine rat_eq hb (Nat.le_refl _) (by simp) ?_
  have : 0 < b ^ 16 := Nat.pow_pos hb
  generalize b ^ 16 = x at *
  omega

theorem rat_mono {a a' b : Nat} (hb : 1 ≤ b) (hab : b ≤ a) (h : a ≤ a') : rat a b ≤ rat a' b :=
  (le_rat hb (Nat.le_trans hab h)).2 (Nat.le_trans (rat_le hb hab) (Nat.pow_le_pow_left h 16))
theorem rat_anti {a b b' : Nat} (hb : 1 ≤ b) (h : b ≤ b') (hab : b' ≤ a) : rat a b' ≤ rat a b :=
  (le_rat hb (Nat.le_trans h hab)).2 (Nat.le_trans (Nat.mul_le_mul_left _ (Nat.pow_le_pow_left h 16)) (rat_le (Nat.le_trans hb h) hab))

theorem rat_parts {a b c : Nat} (hc : 1 ≤ c) (hcb : c ≤ b) (hba : b ≤ a) : rat a c = rat a b + rat b c ∨ rat a c = rat a b + rat b c + 1 := by
  have hb : 1 ≤ b := Nat.le_trans hc hcb
  have hca := Nat.le_trans hcb hba
  have h1 := rat_le hb hba
  have h2 := rat_le hc hcb
  have h3 := rat_lt hb hba
  have h4 := rat_lt hc hcb
  have g1 : rat a b + rat b c ≤ rat a c := by
    rw [le_rat hc hca, Nat.pow_add, Nat.mul_assoc]
    exact Nat.le_trans (Nat.mul_le_mul_left _ h2) h1
  have g2 : ¬ (rat a b + rat b c + 2 ≤ rat a c) := by
    rw [le_rat hc hca]
    refine Nat.not_le.2 (Nat.lt_of_lt_of_le h3 ?_)
    have e : 2 ^ (rat a b + rat b c + 2) * c ^ 16 = 2 ^ (rat a b + 1) * (2 ^ (rat b c + 1) * c ^ 16) := by
      rw [← Nat.mul_assoc, ← Nat.pow_add]
      congr 2
      omega
    rw [e]
    exact Nat.mul_le_mul_left _ (Nat.le_of_lt h4)
  omega

theorem rat_sixteen {a b : Nat} (hb : 1 ≤ b) (hab : b ≤ a) : 16 ≤ rat a b ↔ 2 * b ≤ a := by
  rw [le_rat hb hab, ← Nat.mul_pow]
  exact Nat.pow_le_pow_iff_left (by decide)
theorem rat_le_sixteen {a b : Nat} (hb : 1 ≤ b) (hab : b ≤ a) (h : a ≤ 2 * b) : rat a b ≤ 16 := by
  have := rat_mono hb hab h
  rw [rat_double hb (Nat.le_refl b), rat_self hb] at this
  omega
end Go.Proofs.Ytcffaemclmcknaa
