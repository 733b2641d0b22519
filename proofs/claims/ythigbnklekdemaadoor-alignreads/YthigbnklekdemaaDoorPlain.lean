/- The runes of a text, plain: no program here. -/
import Derived.Lib.MapLaws
import Derived.Lib.ValidLaws
namespace Go.Proofs.YthigbnklekdemaaDoor
open Go.Lib

/-- The bytes begin with no rune. -/
def badB (l : List UInt8) : Bool := decide ((decodeL l).1 = 65533 ∧ (decodeL l).2 = 1)
/-- What the iterator hands on: the runes, and -1 where the bytes are no text. -/
def itemsF : Nat → List UInt8 → List Int
  | 0, _ => []
  | n + 1, l => if l = [] then [] else if badB l then [-1] else ((decodeL l).1 : Int) :: itemsF n (l.drop (decodeL l).2)
def items (l : List UInt8) : List Int := itemsF l.length l

theorem itemsF_nil : ∀ n, itemsF n [] = []
  | 0 => rfl
  | _ + 1 => by simp [itemsF]
theorem itemsF_fuel : ∀ (n m : Nat) (l : List UInt8), l.length ≤ n → l.length ≤ m → itemsF n l = itemsF m l
  | 0, m, l, hn, _ => by
    have : l = [] := List.eq_nil_of_length_eq_zero (by omega)
    subst this; rw [itemsF_nil, itemsF_nil]
  | n + 1, 0, l, _, hm => by
    have : l = [] := List.eq_nil_of_length_eq_zero (by omega)
    subst this; rw [itemsF_nil, itemsF_nil]
  | n + 1, m + 1, l, hn, hm => by
    unfold itemsF
    by_cases hne : l = []
    · simp [hne]
    · have hw := decodeL_width l
      have hl : 0 < l.length := List.length_pos_iff.2 hne
      rw [if_neg hne, if_neg hne, itemsF_fuel n m (l.drop (decodeL l).2) (by rw [List.length_drop]; omega) (by rw [List.length_drop]; omega)]
theorem items_nil : items [] = [] := rfl
theorem items_step (l : List UInt8) (hne : l ≠ []) : items l = if badB l then [-1] else ((decodeL l).1 : Int) :: items (l.drop (decodeL l).2) := by
  have hl : 0 < l.length := List.length_pos_iff.2 hne
  have hw := decodeL_width l
  obtain ⟨n, hn⟩ : ∃ n, l.length = n + 1 := ⟨l.length - 1, by omega⟩
  unfold items
  rw [hn]
  show (if l = [] then [] else _) = _
  rw [if_neg hne, itemsF_fuel n (l.drop (decodeL l).2).length _ (by rw [List.length_drop]; omega) (Nat.le_refl _)]
theorem valid_step (l : List UInt8) (hne : l ≠ []) : validD l = if badB l then false else validD (l.drop (decodeL l).2) := by
  rw [validD_step l hne]; unfold badB
  by_cases h : (decodeL l).1 = 65533 ∧ (decodeL l).2 = 1 <;> simp [h]

/-- An induction along the runes. -/
theorem byRunes {C : List UInt8 → Prop} (h0 : C []) (h1 : ∀ l, l ≠ [] → badB l = true → C l) (h2 : ∀ l, l ≠ [] → badB l = false → C (l.drop (decodeL l).2) → C l) : ∀ l, C l := by
  intro l
  obtain ⟨n, hn⟩ : ∃ n, l.length = n := ⟨_, rfl⟩
  induction n using Nat.strongRecOn generalizing l with
  | _ n ih =>
    by_cases hne : l = []
    · subst hne; exact h0
    · cases hb : badB l with
      | true => exact h1 l hne hb
      | false =>
        refine h2 l hne hb (ih _ ?_ _ rfl)
        have hw := decodeL_width l
        have hl : 0 < l.length := List.length_pos_iff.2 hne
        rw [List.length_drop]; omega

theorem items_valid (l : List UInt8) : (∀ x ∈ items l, x ≠ -1) ↔ validD l = true := by
  refine byRunes (C := fun l => (∀ x ∈ items l, x ≠ -1) ↔ validD l = true) ?_ ?_ ?_ l
  · simp [items_nil, validD_nil]
  · intro l hne hb
    rw [items_step l hne, valid_step l hne, hb]; simp
  · intro l hne hb ih
    rw [items_step l hne, valid_step l hne, hb]
    simp only [Bool.false_eq_true, if_false, List.mem_cons, forall_eq_or_imp, ih]
    constructor
    · exact fun h => h.2
    · exact fun h => ⟨by omega, h⟩

theorem items_le (l : List UInt8) : (items l).length ≤ l.length := by
  refine byRunes (C := fun l => (items l).length ≤ l.length) ?_ ?_ ?_ l
  · simp [items_nil]
  · intro l hne hb
    have hl : 0 < l.length := List.length_pos_iff.2 hne
    rw [items_step l hne, hb]; simp; omega
  · intro l hne hb ih
    have hw := decodeL_width l
    have hl : 0 < l.length := List.length_pos_iff.2 hne
    rw [items_step l hne, hb]
    rw [List.length_drop] at ih
    simp; omega

theorem decodeL_rune (l : List UInt8) : Lib.validRune ((decodeL l).1 : Int) = true := by
  rw [decodeL_N]
  have k0 := (l.getD 0 0).toNat_lt
  have k1 := (l.getD 1 0).toNat_lt
  have k2 := (l.getD 2 0).toNat_lt
  have k3 := (l.getD 3 0).toNat_lt
  unfold Lib.validRune
  rcases decodeN_shape l.length (l.getD 0 0).toNat (l.getD 1 0).toNat (l.getD 2 0).toNat (l.getD 3 0).toNat with ⟨c, e⟩ | ⟨c1, c2, c3, cv, e⟩ | ⟨c1, c2, c3, c4, cv, cs, e⟩ | ⟨c1, c2, c3, c4, c5, cv, cw, e⟩ | e
  all_goals (rw [e]; dsimp only; simp only [decide_eq_true_eq]; omega)

theorem items_runes (l : List UInt8) (hv : validD l = true) : ∀ x ∈ items l, Lib.validRune x = true := by
  revert hv
  refine byRunes (C := fun l => validD l = true → ∀ x ∈ items l, Lib.validRune x = true) ?_ ?_ ?_ l
  · simp [items_nil]
  · intro l hne hb hv
    rw [valid_step l hne, hb] at hv; simp at hv
  · intro l hne hb ih hv
    rw [valid_step l hne, hb] at hv
    rw [items_step l hne, hb]
    simp only [Bool.false_eq_true, if_false] at hv ⊢
    intro x hx
    rcases List.mem_cons.1 hx with rfl | hx
    · exact decodeL_rune l
    · exact ih hv x hx

/-- The text of runes. -/
def encL (l : List Int) : List UInt8 := l.flatMap encodeRune
theorem encL_nil : encL [] = [] := rfl
theorem encL_cons (r : Int) (l : List Int) : encL (r :: l) = encodeRune r ++ encL l := rfl
theorem encL_append (x y : List Int) : encL (x ++ y) = encL x ++ encL y := by simp [encL]

/-- What was decoded is encoded as it was. -/
theorem enc_items (l : List UInt8) (hv : validD l = true) : encL (items l) = l := by
  revert hv
  refine byRunes (C := fun l => validD l = true → encL (items l) = l) ?_ ?_ ?_ l
  · simp [items_nil, encL]
  · intro l hne hb hv
    rw [valid_step l hne, hb] at hv; simp at hv
  · intro l hne hb ih hv
    rw [valid_step l hne, hb] at hv
    rw [items_step l hne, hb]
    simp only [Bool.false_eq_true, if_false] at hv ⊢
    rw [encL_cons, ih hv, encode_decode l hne (by unfold badB at hb; simpa using hb), List.take_append_drop]

theorem byteNat (z : Int) (n : Nat) (h : z = n) (hn : n < 256) : (z.toNat.toUInt8).toNat = n := by subst h; simp; omega
theorem decodeN_one (n m c d e : Nat) (h : n ≤ 127) : decodeN m n c d e = (n, 1) := by unfold decodeN; rw [if_pos (by omega)]
theorem decodeN_two (n m c d : Nat) (h0 : 128 ≤ n) (h1 : n ≤ 2047) (hm : 1 < m) : decodeN m (192 + n / 64) (128 + n % 64) c d = (n, 2) := by
  unfold decodeN; rw [if_neg (by omega), if_pos (by omega), if_pos (by omega), Prod.mk.injEq]; exact ⟨by omega, rfl⟩
theorem decodeN_three (n m d : Nat) (h0 : 2048 ≤ n) (h1 : n ≤ 65535) (h2 : n < 55296 ∨ 57343 < n) (hm : 2 < m) : decodeN m (224 + n / 4096) (128 + n / 64 % 64) (128 + n % 64) d = (n, 3) := by
  unfold decodeN; rw [if_neg (by omega), if_neg (by omega), if_pos (by omega), if_pos (by omega), Prod.mk.injEq]; exact ⟨by omega, rfl⟩
theorem decodeN_four (n m : Nat) (h0 : 65536 ≤ n) (h1 : n ≤ 1114111) (hm : 3 < m) : decodeN m (240 + n / 262144) (128 + n / 4096 % 64) (128 + n / 64 % 64) (128 + n % 64) = (n, 4) := by
  unfold decodeN; rw [if_neg (by omega), if_neg (by omega), if_neg (by omega), if_pos (by omega), if_pos (by omega), Prod.mk.injEq]; exact ⟨by omega, rfl⟩

/-- What was encoded is decoded: the first rune of an encoded rune and whatever follows. -/
theorem decode_encode (r : Int) (t : List UInt8) (h : Lib.validRune r = true) : decodeL (encodeRune r ++ t) = (r.toNat, (encodeRune r).length) := by
  have hv : (0 ≤ r ∧ r < 0xD800) ∨ (0xDFFF < r ∧ r ≤ 0x10FFFF) := by simpa [Lib.validRune] using h
  rw [decodeL_N]
  unfold encodeRune
  obtain ⟨n, rfl⟩ : ∃ n : Nat, r = n := ⟨r.toNat, by omega⟩
  by_cases a : n ≤ 127
  · rw [encodeRuneZ_one (by omega) (by omega)]
    simp only [List.map_cons, List.map_nil, List.cons_append, List.nil_append, List.length_cons, List.getD_cons_zero, List.getD_cons_succ, List.length_nil]
    rw [byteNat _ n rfl (by omega), decodeN_one _ _ _ _ _ (by omega)]; simp
  · by_cases b : n ≤ 2047
    · rw [encodeRuneZ_two (by omega) (by omega)]
      simp only [List.map_cons, List.map_nil, List.cons_append, List.nil_append, List.length_cons, List.getD_cons_zero, List.getD_cons_succ, List.length_nil]
      rw [byteNat _ (192 + n / 64) (by omega) (by omega), byteNat _ (128 + n % 64) (by omega) (by omega), decodeN_two _ _ _ _ (by omega) (by omega) (by omega)]; simp
    · by_cases c : n ≤ 65535
      · rw [encodeRuneZ_three (by omega)]
        simp only [List.map_cons, List.map_nil, List.cons_append, List.nil_append, List.length_cons, List.getD_cons_zero, List.getD_cons_succ, List.length_nil]
        rw [byteNat _ (224 + n / 4096) (by omega) (by omega), byteNat _ (128 + n / 64 % 64) (by omega) (by omega), byteNat _ (128 + n % 64) (by omega) (by omega), decodeN_three _ _ _ (by omega) (by omega) (by omega) (by omega)]; simp
      · rw [encodeRuneZ_four (by omega) (by omega)]
        simp only [List.map_cons, List.map_nil, List.cons_append, List.nil_append, List.length_cons, List.getD_cons_zero, List.getD_cons_succ, List.length_nil]
        rw [byteNat _ (240 + n / 262144) (by omega) (by omega), byteNat _ (128 + n / 4096 % 64) (by omega) (by omega), byteNat _ (128 + n / 64 % 64) (by omega) (by omega), byteNat _ (128 + n % 64) (by omega) (by omega), decodeN_four _ _ (by omega) (by omega) (by omega)]; simp

theorem encodeRune_len (r : Int) : 1 ≤ (encodeRune r).length ∧ (encodeRune r).length ≤ 4 := by
  have := encodeRuneZ_length r; simpa [encodeRune] using this
theorem encodeRune_len_valid (r : Int) (h : Lib.validRune r = true) (h1 : (encodeRune r).length = 1) : r ≠ 65533 := by
  rintro rfl
  rw [encodeRune, encodeRuneZ_three (by omega)] at h1; simp at h1
theorem valid_nonneg {r : Int} (h : Lib.validRune r = true) : 0 ≤ r := by
  have hv : (0 ≤ r ∧ r < 0xD800) ∨ (0xDFFF < r ∧ r ≤ 0x10FFFF) := by simpa [Lib.validRune] using h
  omega
/-- One rune in front of whatever bytes. -/
theorem items_enc (r : Int) (t : List UInt8) (h : Lib.validRune r = true) : items (encodeRune r ++ t) = r :: items t ∧ validD (encodeRune r ++ t) = validD t := by
  have hl := encodeRune_len r
  have hne : encodeRune r ++ t ≠ [] := by intro e; have := congrArg List.length e; rw [List.length_append, List.length_nil] at this; omega
  have hd := decode_encode r t h
  have hb : badB (encodeRune r ++ t) = false := by
    unfold badB; rw [hd]
    simp only [decide_eq_false_iff_not]
    rintro ⟨a, b⟩
    have h0 := valid_nonneg h
    exact encodeRune_len_valid r h b (by omega)
  rw [items_step _ hne, valid_step _ hne, hb, hd]
  simp only [Bool.false_eq_true, if_false]
  rw [List.drop_left]
  have h0 := valid_nonneg h
  exact ⟨by rw [Int.toNat_of_nonneg h0], rfl⟩
theorem items_encL (l : List Int) (t : List UInt8) (h : ∀ r ∈ l, Lib.validRune r = true) : items (encL l ++ t) = l ++ items t ∧ validD (encL l ++ t) = validD t := by
  induction l with
  | nil => simp [encL]
  | cons r l ih =>
    rw [encL_cons, List.append_assoc]
    have h1 := items_enc r (encL l ++ t) (h r (by simp))
    have h2 := ih (fun x hx => h x (by simp [hx]))
    rw [h1.1, h1.2, h2.1, h2.2]; simp
/-- What is encoded is a text, and decoded as it was. -/
theorem items_of_enc (l : List Int) (h : ∀ r ∈ l, Lib.validRune r = true) : items (encL l) = l ∧ validD (encL l) = true := by
  have := items_encL l [] h
  simpa [items_nil, validD_nil] using this
/-- Two texts one behind the other, the first a text. -/
theorem items_join (a b : List UInt8) (ha : validD a = true) : items (a ++ b) = items a ++ items b ∧ validD (a ++ b) = validD b := by
  have h := items_encL (items a) b (items_runes a ha)
  rwa [enc_items a ha] at h
theorem encL_le (l : List Int) : (encL l).length ≤ 4 * l.length := by
  induction l with
  | nil => simp [encL]
  | cons r l ih => rw [encL_cons, List.length_append, List.length_cons]; have := encodeRune_len r; omega
theorem items_eq_nil (l : List UInt8) : items l = [] ↔ l = [] := by
  constructor
  · intro h
    by_cases hne : l = []
    · exact hne
    · rw [items_step l hne] at h; split at h <;> simp at h
  · rintro rfl; rfl
/-- A letter. -/
def letterB (r : Int) : Bool := decide ((65 ≤ r ∧ r ≤ 90) ∨ (97 ≤ r ∧ r ≤ 122) ∨ (192 ≤ r ∧ Lib.validRune r = true ∧ r ≠ 215 ∧ r ≠ 247 ∧ ¬ (8192 ≤ r ∧ r ≤ 8303)))
end Go.Proofs.YthigbnklekdemaaDoor
