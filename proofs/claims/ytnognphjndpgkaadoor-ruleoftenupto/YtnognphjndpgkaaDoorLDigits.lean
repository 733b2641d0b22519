/- Numbers by their digits, ten thousand of them: plain. -/
namespace Go.Proofs.YtnognphjndpgkaaDoor

/-- What a row of digits is worth, the lowest first. -/
def valD : List Nat → Nat
  | [] => 0
  | d :: l => d + 10000 * valD l

theorem valD_append (a b : List Nat) : valD (a ++ b) = valD a + 10000 ^ a.length * valD b := by
  induction a with
  | nil => simp [valD]
  | cons d a ih =>
    rw [List.cons_append, valD, valD, ih, List.length_cons, Nat.pow_succ, Nat.mul_add, Nat.mul_comm (10000 ^ a.length) 10000, Nat.mul_assoc]
    omega

theorem valD_lt {l : List Nat} (h : ∀ d ∈ l, d < 10000) : valD l < 10000 ^ l.length := by
  induction l with
  | nil => simp [valD]
  | cons d l ih =>
    have h1 := h d (by simp)
    have h2 := ih fun x hx => h x (by simp [hx])
    rw [valD, List.length_cons, Nat.pow_succ]
    generalize 10000 ^ l.length = y at *
    omega

theorem valD_take (l : List Nat) (k : Nat) (hk : k < l.length) : valD (l.take (k + 1)) = valD (l.take k) + 10000 ^ k * l.getD k 0 := by
  rw [List.take_add_one, valD_append, List.length_take, Nat.min_eq_left (Nat.le_of_lt hk)]
  simp [List.getElem?_eq_getElem hk, valD, List.getD_eq_getElem?_getD]

theorem valD_set (l : List Nat) (j x : Nat) (hj : j < l.length) : valD (l.set j x) + 10000 ^ j * l.getD j 0 = valD l + 10000 ^ j * x := by
  induction l generalizing j with
  | nil => simp at hj
  | cons d l ih =>
    cases j with
    | zero => simp [valD]; omega
    | succ j =>
      have h := ih j (by simpa using hj)
      rw [List.set_cons_succ, valD, valD, List.getD_cons_succ, Nat.pow_succ, Nat.mul_comm (10000 ^ j) 10000, Nat.mul_assoc, Nat.mul_assoc]
      generalize 10000 ^ j * l.getD j 0 = u at *
      generalize 10000 ^ j * x = v at *
      omega

theorem valD_zeros (n : Nat) : valD (List.replicate n 0) = 0 := by
  induction n with
  | zero => rfl
  | succ n ih => rw [List.replicate_succ, valD, ih]

/-- One product into its place, with what it carries. -/
def stepD (o : List Nat) (p x : Nat) : List Nat := (o.set (p + 1) (o.getD (p + 1) 0 + (o.getD p 0 + x) / 10000)).set p ((o.getD p 0 + x) % 10000)

theorem getD_setL (l : List Nat) (i j x : Nat) (hi : i < l.length) : (l.set i x).getD j 0 = if i = j then x else l.getD j 0 := by
  rw [List.getD_eq_getElem?_getD, List.getD_eq_getElem?_getD, List.getElem?_set]
  by_cases h : i = j
  · subst h; simp [hi]
  · simp [h]

theorem stepD_length (o : List Nat) (p x : Nat) : (stepD o p x).length = o.length := by simp [stepD]

theorem stepD_val (o : List Nat) (p x : Nat) (hp : p + 1 < o.length) : valD (stepD o p x) = valD o + 10000 ^ p * x := by
  have h1 := valD_set o (p + 1) (o.getD (p + 1) 0 + (o.getD p 0 + x) / 10000) hp
  have h2 := valD_set (o.set (p + 1) (o.getD (p + 1) 0 + (o.getD p 0 + x) / 10000)) p ((o.getD p 0 + x) % 10000) (by simp; omega)
  rw [getD_setL _ _ _ _ hp, if_neg (by omega)] at h2
  show valD ((o.set (p + 1) _).set p _) = _
  generalize valD ((o.set (p + 1) (o.getD (p + 1) 0 + (o.getD p 0 + x) / 10000)).set p ((o.getD p 0 + x) % 10000)) = A at *
  generalize valD (o.set (p + 1) (o.getD (p + 1) 0 + (o.getD p 0 + x) / 10000)) = B at *
  rw [Nat.pow_succ, Nat.mul_add] at h1
  have e : o.getD p 0 + x = (o.getD p 0 + x) % 10000 + 10000 * ((o.getD p 0 + x) / 10000) := by omega
  have e2 : 10000 ^ p * (o.getD p 0 + x) = 10000 ^ p * ((o.getD p 0 + x) % 10000) + 10000 ^ p * 10000 * ((o.getD p 0 + x) / 10000) := by
    rw [Nat.mul_assoc, ← Nat.mul_add, ← e]
  rw [Nat.mul_add] at e2
  generalize 10000 ^ p * ((o.getD p 0 + x) % 10000) = m at *
  generalize 10000 ^ p * 10000 * ((o.getD p 0 + x) / 10000) = q at *
  generalize 10000 ^ p * 10000 * o.getD (p + 1) 0 = r at *
  generalize 10000 ^ p * o.getD p 0 = s at *
  generalize 10000 ^ p * x = t at *
  omega

theorem stepD_getD (o : List Nat) (p x j : Nat) (hp : p + 1 < o.length) :
    (stepD o p x).getD j 0 = if p = j then (o.getD p 0 + x) % 10000 else if p + 1 = j then o.getD (p + 1) 0 + (o.getD p 0 + x) / 10000 else o.getD j 0 := by
  rw [stepD, getD_setL _ _ _ _ (by simp; omega), getD_setL _ _ _ _ hp]

/-- All cells are at most m. -/
def capD (o : List Nat) (m : Nat) : Prop := ∀ j, o.getD j 0 ≤ m

theorem stepD_cap {o : List Nat} {p x m : Nat} (hp : p + 1 < o.length) (h : capD o m) (hm : m ≤ 1000000000000) (hx : x ≤ 100000000) : capD (stepD o p x) (m + 200000000) := by
  intro j
  rw [stepD_getD o p x j hp]
  have h0 := h j
  have h1 := h p
  have h2 := h (p + 1)
  split
  · omega
  · split <;> omega

/-- Digits, each one, the last not 0. -/
def Can (l : List Nat) : Prop := (∀ j, l.getD j 0 < 10000) ∧ ∀ j, j + 1 = l.length → l.getD j 0 ≠ 0

theorem Can.lt {l : List Nat} (h : Can l) : ∀ d ∈ l, d < 10000 := by
  intro d hd
  obtain ⟨i, hi, rfl⟩ := List.getElem_of_mem hd
  have := h.1 i
  rwa [List.getD_eq_getElem?_getD, List.getElem?_eq_getElem hi] at this

theorem valD_ge {l : List Nat} (j : Nat) (hj : j < l.length) : 10000 ^ j * l.getD j 0 ≤ valD l := by
  have h := valD_take l j hj
  have e : valD l = valD (l.take (j + 1)) + 10000 ^ (j + 1) * valD (l.drop (j + 1)) := by
    have := valD_append (l.take (j + 1)) (l.drop (j + 1))
    rw [List.take_append_drop, List.length_take, Nat.min_eq_left hj] at this
    exact this
  omega

theorem Can.len {l : List Nat} (h : Can l) {n : Nat} (hv : valD l < 10000 ^ n) : l.length ≤ n := by
  by_cases h0 : l.length ≤ n
  · exact h0
  · exfalso
    have h1 := h.2 (l.length - 1) (by omega)
    have h2 := valD_ge (l := l) (l.length - 1) (by omega)
    have h3 : 10000 ^ n ≤ 10000 ^ (l.length - 1) := Nat.pow_le_pow_right (by decide) (by omega)
    have h4 : 10000 ^ (l.length - 1) * 1 ≤ 10000 ^ (l.length - 1) * l.getD (l.length - 1) 0 := Nat.mul_le_mul_left _ (by omega)
    omega

theorem Can.ge {l : List Nat} (h : Can l) (h0 : 0 < l.length) : 10000 ^ (l.length - 1) ≤ valD l := by
  have h1 := h.2 (l.length - 1) (by omega)
  have h2 := valD_ge (l := l) (l.length - 1) (by omega)
  have h4 : 10000 ^ (l.length - 1) * 1 ≤ 10000 ^ (l.length - 1) * l.getD (l.length - 1) 0 := Nat.mul_le_mul_left _ (by omega)
  omega

/-- Is the first of two greater, by their first k digits? -/
def gtD (a b : List Nat) : Nat → Bool
  | 0 => false
  | k + 1 => if a.getD k 0 = b.getD k 0 then gtD a b k else decide (b.getD k 0 < a.getD k 0)

theorem gtD_iff (a b : List Nat) (ha : ∀ j, a.getD j 0 < 10000) (hb : ∀ j, b.getD j 0 < 10000) (k : Nat) (hka : k ≤ a.length) (hkb : k ≤ b.length) : gtD a b k = decide (valD (b.take k) < valD (a.take k)) := by
  induction k with
  | zero => simp [gtD]
  | succ k ih =>
    have h1 : valD (a.take k) < 10000 ^ k := by
      have := valD_lt (l := a.take k) (fun d hd => by
        obtain ⟨i, hi, rfl⟩ := List.getElem_of_mem (List.mem_of_mem_take hd)
        have := ha i
        rwa [List.getD_eq_getElem?_getD, List.getElem?_eq_getElem hi] at this)
      rwa [List.length_take, Nat.min_eq_left (by omega)] at this
    have h2 : valD (b.take k) < 10000 ^ k := by
      have := valD_lt (l := b.take k) (fun d hd => by
        obtain ⟨i, hi, rfl⟩ := List.getElem_of_mem (List.mem_of_mem_take hd)
        have := hb i
        rwa [List.getD_eq_getElem?_getD, List.getElem?_eq_getElem hi] at this)
      rwa [List.length_take, Nat.min_eq_left (by omega)] at this
    rw [gtD, valD_take a k (by omega), valD_take b k (by omega)]
    by_cases e : a.getD k 0 = b.getD k 0
    · rw [if_pos e, ih (by omega) (by omega), e]
      simp
    · rw [if_neg e]
      by_cases hlt : b.getD k 0 < a.getD k 0
      · have h3 : 10000 ^ k * (b.getD k 0 + 1) ≤ 10000 ^ k * a.getD k 0 := Nat.mul_le_mul_left _ hlt
        rw [Nat.mul_add] at h3
        generalize 10000 ^ k * a.getD k 0 = x at *
        generalize 10000 ^ k * b.getD k 0 = y at *
        generalize 10000 ^ k = z at *
        rw [decide_eq_true hlt, decide_eq_true (by omega)]
      · have h3 : 10000 ^ k * (a.getD k 0 + 1) ≤ 10000 ^ k * b.getD k 0 := Nat.mul_le_mul_left _ (by omega)
        rw [Nat.mul_add] at h3
        generalize 10000 ^ k * a.getD k 0 = x at *
        generalize 10000 ^ k * b.getD k 0 = y at *
        generalize 10000 ^ k = z at *
        rw [decide_eq_false hlt, decide_eq_false (by omega)]

/-- As errataref03.more tells it. -/
def moreD (a b : List Nat) : Bool := if a.length = b.length then gtD a b a.length else decide (b.length < a.length)

theorem moreD_iff {a b : List Nat} (ha : Can a) (hb : Can b) : moreD a b = decide (valD b < valD a) := by
  unfold moreD
  by_cases h : a.length = b.length
  · rw [if_pos h, gtD_iff a b ha.1 hb.1 a.length (Nat.le_refl _) (by omega), List.take_of_length_le (by omega), List.take_of_length_le (by omega)]
  · rw [if_neg h]
    have h1 := valD_lt ha.lt
    have h2 := valD_lt hb.lt
    by_cases hlt : b.length < a.length
    · have h3 := ha.ge (by omega)
      have h4 : 10000 ^ b.length ≤ 10000 ^ (a.length - 1) := Nat.pow_le_pow_right (by decide) (by omega)
      rw [decide_eq_true hlt, decide_eq_true (by omega)]
    · have h3 := hb.ge (by omega)
      have h4 : 10000 ^ a.length ≤ 10000 ^ (b.length - 1) := Nat.pow_le_pow_right (by decide) (by omega)
      rw [decide_eq_false hlt, decide_eq_false (by omega)]
end Go.Proofs.YtnognphjndpgkaaDoor
