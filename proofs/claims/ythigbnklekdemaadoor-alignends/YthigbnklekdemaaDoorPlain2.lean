/- Two texts one behind the other; texts compare as their bytes do: plain. -/
import Derived.Test.YthigbnklekdemaaDoorBase
import Derived.Test.YthigbnklekdemaaDoorPlain
import Derived.Lib.Small
import Derived.Lib.Strings
import Derived.Lib.Bytealg
namespace Go.Proofs.YthigbnklekdemaaDoor
open Go.Lib

theorem rune_bd {r : Int} (h : Lib.validRune r = true) : (0 ≤ r ∧ r < 0xD800) ∨ (0xDFFF < r ∧ r ≤ 0x10FFFF) := by simpa [Lib.validRune] using h
/-- The four forms of a rune's bytes. -/
theorem enc_forms (r : Int) (h : Lib.validRune r = true) : ∃ n : Nat, r = n ∧
    ((n ≤ 127 ∧ encodeRune r = [n.toUInt8]) ∨ (128 ≤ n ∧ n ≤ 2047 ∧ encodeRune r = [(192 + n / 64).toUInt8, (128 + n % 64).toUInt8]) ∨
     (2048 ≤ n ∧ n ≤ 65535 ∧ encodeRune r = [(224 + n / 4096).toUInt8, (128 + n / 64 % 64).toUInt8, (128 + n % 64).toUInt8]) ∨
     (65536 ≤ n ∧ n ≤ 1114111 ∧ encodeRune r = [(240 + n / 262144).toUInt8, (128 + n / 4096 % 64).toUInt8, (128 + n / 64 % 64).toUInt8, (128 + n % 64).toUInt8])) := by
  have hv := rune_bd h
  obtain ⟨n, rfl⟩ : ∃ n : Nat, r = n := ⟨r.toNat, by omega⟩
  refine ⟨n, rfl, ?_⟩
  unfold encodeRune
  by_cases a : n ≤ 127
  · left; rw [encodeRuneZ_one (by omega) (by omega)]; exact ⟨a, by simp⟩
  · by_cases b : n ≤ 2047
    · right; left; rw [encodeRuneZ_two (by omega) (by omega)]
      refine ⟨by omega, b, ?_⟩
      simp only [List.map_cons, List.map_nil]
      rw [show (192 + (n : Int) / 64).toNat = 192 + n / 64 by omega, show (128 + (n : Int) % 64).toNat = 128 + n % 64 by omega]
    · by_cases c : n ≤ 65535
      · right; right; left; rw [encodeRuneZ_three (by omega)]
        refine ⟨by omega, c, ?_⟩
        simp only [List.map_cons, List.map_nil]
        rw [show (224 + (n : Int) / 4096).toNat = 224 + n / 4096 by omega, show (128 + (n : Int) / 64 % 64).toNat = 128 + n / 64 % 64 by omega, show (128 + (n : Int) % 64).toNat = 128 + n % 64 by omega]
      · right; right; right; rw [encodeRuneZ_four (by omega) (by omega)]
        refine ⟨by omega, by omega, ?_⟩
        simp only [List.map_cons, List.map_nil]
        rw [show (240 + (n : Int) / 262144).toNat = 240 + n / 262144 by omega, show (128 + (n : Int) / 4096 % 64).toNat = 128 + n / 4096 % 64 by omega, show (128 + (n : Int) / 64 % 64).toNat = 128 + n / 64 % 64 by omega, show (128 + (n : Int) % 64).toNat = 128 + n % 64 by omega]
theorem u8n (n : Nat) (h : n < 256) : n.toUInt8.toNat = n := by simp; omega

theorem head_lead (r : Int) (h : Lib.validRune r = true) : ((encodeRune r).getD 0 0).toNat / 64 ≠ 2 := by
  obtain ⟨n, rfl, ⟨h1, e⟩ | ⟨h1, h2, e⟩ | ⟨h1, h2, e⟩ | ⟨h1, h2, e⟩⟩ := enc_forms r h
  all_goals (rw [e, List.getD_cons_zero, u8n _ (by omega)]; omega)
theorem tail_cont (r : Int) (h : Lib.validRune r = true) (i : Nat) (h0 : 1 ≤ i) (hi : i < (encodeRune r).length) : ((encodeRune r).getD i 0).toNat / 64 = 2 := by
  obtain ⟨n, rfl, ⟨h1, e⟩ | ⟨h1, h2, e⟩ | ⟨h1, h2, e⟩ | ⟨h1, h2, e⟩⟩ := enc_forms r h
  all_goals (rw [e] at hi ⊢; simp only [List.length_cons, List.length_nil] at hi)
  · omega
  · obtain rfl : i = 1 := by omega
    simp only [List.getD_cons_zero, List.getD_cons_succ]; rw [u8n _ (by omega)]; omega
  · have : i = 1 ∨ i = 2 := by omega
    rcases this with rfl | rfl <;> (simp only [List.getD_cons_zero, List.getD_cons_succ]; rw [u8n _ (by omega)]; omega)
  · have : i = 1 ∨ i = 2 ∨ i = 3 := by omega
    rcases this with rfl | rfl | rfl <;> (simp only [List.getD_cons_zero, List.getD_cons_succ]; rw [u8n _ (by omega)]; omega)

/-- What begins with a rune is its bytes, and some more. -/
theorem good_form (l : List UInt8) (hne : l ≠ []) (hb : badB l = false) : ∃ r t, Lib.validRune r = true ∧ l = encodeRune r ++ t := by
  refine ⟨(decodeL l).1, l.drop (decodeL l).2, decodeL_rune l, ?_⟩
  rw [encode_decode l hne (by unfold badB at hb; simpa using hb), List.take_append_drop]
theorem not_bad_enc (r : Int) (t : List UInt8) (h : Lib.validRune r = true) : badB (encodeRune r ++ t) = false := by
  unfold badB; rw [decode_encode r t h]
  simp only [decide_eq_false_iff_not]
  rintro ⟨a, b⟩
  have h0 := valid_nonneg h
  exact encodeRune_len_valid r h b (by omega)
theorem valid_head (b : List UInt8) (hne : b ≠ []) (hv : validD b = true) : (b.getD 0 0).toNat / 64 ≠ 2 := by
  have hb : badB b = false := by
    cases h : badB b with
    | false => rfl
    | true => rw [valid_step b hne, h] at hv; simp at hv
  obtain ⟨r, t, hr, rfl⟩ := good_form b hne hb
  have h1 := head_lead r hr
  have h2 := encodeRune_len r
  rw [List.getD_eq_getElem?_getD, List.getElem?_append_left (by omega), ← List.getD_eq_getElem?_getD]
  exact h1
/-- Bytes that are no text, with a text behind them, are none. -/
theorem join_bad (a b : List UInt8) (ha : validD a = false) (hb : validD b = true) : validD (a ++ b) = false := by
  revert ha
  refine byRunes (C := fun a => validD a = false → validD (a ++ b) = false) ?_ ?_ ?_ a
  · intro h; rw [validD_nil] at h; cases h
  · intro a hne hbad _
    have hne2 : a ++ b ≠ [] := by simp [hne]
    rw [valid_step _ hne2]
    cases h : badB (a ++ b) with
    | true => rfl
    | false =>
      exfalso
      obtain ⟨r, t, hr, e⟩ := good_form _ hne2 h
      have hl := encodeRune_len r
      by_cases hk : (encodeRune r).length ≤ a.length
      · have : a = encodeRune r ++ a.drop (encodeRune r).length := by
          have h1 := congrArg (List.take (encodeRune r).length) e
          rw [List.take_append_of_le_length hk, List.take_left] at h1
          have h2 := List.take_append_drop (encodeRune r).length a
          rw [h1] at h2; exact h2.symm
        rw [this, not_bad_enc r _ hr] at hbad
        cases hbad
      · have hal : 0 < a.length := List.length_pos_iff.2 hne
        have hbne : b ≠ [] := by
          rintro rfl
          have := congrArg List.length e
          simp at this; omega
        have h1 := tail_cont r hr a.length hal (by omega)
        have h2 := valid_head b hbne hb
        have h3 : (a ++ b).getD a.length 0 = b.getD 0 0 := by
          rw [List.getD_eq_getElem?_getD, List.getElem?_append_right (Nat.le_refl _), Nat.sub_self, ← List.getD_eq_getElem?_getD]
        have h4 : (a ++ b).getD a.length 0 = (encodeRune r).getD a.length 0 := by
          rw [e, List.getD_eq_getElem?_getD, List.getElem?_append_left (by omega), ← List.getD_eq_getElem?_getD]
        rw [← h4, h3] at h1
        exact h2 h1
  · intro a hne hgood ih hv
    obtain ⟨r, t, hr, rfl⟩ := good_form a hne hgood
    rw [decode_encode r t hr] at ih
    simp only [List.drop_left] at ih
    rw [List.append_assoc, (items_enc r (t ++ b) hr).2]
    rw [(items_enc r t hr).2] at hv
    exact ih hv

theorem cmpB_same (p s t : List UInt8) : compareBytes (p ++ s) (p ++ t) = compareBytes s t := by
  induction p with
  | nil => rfl
  | cons a p ih => simp [compareBytes, ih]
theorem cmpB_lt (a b : UInt8) (s t : List UInt8) (h : a < b) : compareBytes (a :: s) (b :: t) = -1 := by simp [compareBytes, h]
theorem cmpB_eq (a b : UInt8) (s t : List UInt8) (h : a = b) : compareBytes (a :: s) (b :: t) = compareBytes s t := by subst h; simp [compareBytes]
theorem u8lt (m n : Nat) (h : m < n) (hn : n < 256) : m.toUInt8 < n.toUInt8 := by
  rw [UInt8.lt_iff_toNat_lt, u8n m (by omega), u8n n hn]; exact h
theorem enc_lt (r q : Int) (hr : Lib.validRune r = true) (hq : Lib.validRune q = true) (h : r < q) (s t : List UInt8) : compareBytes (encodeRune r ++ s) (encodeRune q ++ t) = -1 := by
  obtain ⟨n, rfl, ⟨a1, e⟩ | ⟨a1, a2, e⟩ | ⟨a1, a2, e⟩ | ⟨a1, a2, e⟩⟩ := enc_forms r hr
  all_goals (obtain ⟨m, rfl, ⟨b1, e'⟩ | ⟨b1, b2, e'⟩ | ⟨b1, b2, e'⟩ | ⟨b1, b2, e'⟩⟩ := enc_forms q hq)
  all_goals (rw [e, e']; simp only [List.cons_append, List.nil_append])
  all_goals first
    | (exact cmpB_lt _ _ _ _ (u8lt _ _ (by omega) (by omega)))
    | (exfalso; omega)
    | skip
  · by_cases h1 : n / 64 < m / 64
    · exact cmpB_lt _ _ _ _ (u8lt _ _ (by omega) (by omega))
    · rw [cmpB_eq _ _ _ _ (by rw [show n / 64 = m / 64 by omega])]
      exact cmpB_lt _ _ _ _ (u8lt _ _ (by omega) (by omega))
  · by_cases h1 : n / 4096 < m / 4096
    · exact cmpB_lt _ _ _ _ (u8lt _ _ (by omega) (by omega))
    · rw [cmpB_eq _ _ _ _ (by rw [show n / 4096 = m / 4096 by omega])]
      by_cases h2 : n / 64 % 64 < m / 64 % 64
      · exact cmpB_lt _ _ _ _ (u8lt _ _ (by omega) (by omega))
      · rw [cmpB_eq _ _ _ _ (by rw [show n / 64 % 64 = m / 64 % 64 by omega])]
        exact cmpB_lt _ _ _ _ (u8lt _ _ (by omega) (by omega))
  · by_cases h1 : n / 262144 < m / 262144
    · exact cmpB_lt _ _ _ _ (u8lt _ _ (by omega) (by omega))
    · rw [cmpB_eq _ _ _ _ (by rw [show n / 262144 = m / 262144 by omega])]
      by_cases h2 : n / 4096 % 64 < m / 4096 % 64
      · exact cmpB_lt _ _ _ _ (u8lt _ _ (by omega) (by omega))
      · rw [cmpB_eq _ _ _ _ (by rw [show n / 4096 % 64 = m / 4096 % 64 by omega])]
        by_cases h3 : n / 64 % 64 < m / 64 % 64
        · exact cmpB_lt _ _ _ _ (u8lt _ _ (by omega) (by omega))
        · rw [cmpB_eq _ _ _ _ (by rw [show n / 64 % 64 = m / 64 % 64 by omega])]
          exact cmpB_lt _ _ _ _ (u8lt _ _ (by omega) (by omega))
theorem cmpB_flip (a b : List UInt8) : compareBytes a b = - compareBytes b a := by
  induction a generalizing b with
  | nil => cases b <;> simp [compareBytes]
  | cons x a ih =>
    cases b with
    | nil => simp [compareBytes]
    | cons y b =>
      simp only [compareBytes]
      by_cases h1 : x < y
      · have h2 : ¬ y < x := by rw [UInt8.lt_iff_toNat_lt] at *; omega
        simp [h1, h2]
      · by_cases h2 : y < x
        · simp [h1, h2]
        · simp [h1, h2, ih b]
theorem cmpL_flip (a b : List Int) : cmpL a b = - cmpL b a := by
  induction a generalizing b with
  | nil => cases b <;> simp [cmpL]
  | cons x a ih =>
    cases b with
    | nil => simp [cmpL]
    | cons y b =>
      simp only [cmpL]
      by_cases h1 : x < y
      · have h2 : ¬ y < x := by omega
        simp [h1, h2]
      · by_cases h2 : y < x
        · simp [h1, h2]
        · simp [h1, h2, ih b]
/-- Texts compare as their bytes do. -/
theorem cmp_enc (x y : List Int) (hx : ∀ r ∈ x, Lib.validRune r = true) (hy : ∀ r ∈ y, Lib.validRune r = true) : compareBytes (encL x) (encL y) = cmpL x y := by
  induction x generalizing y with
  | nil =>
    cases y with
    | nil => rfl
    | cons q y =>
      rw [encL_cons]
      have := encodeRune_len q
      cases h : encodeRune q with
      | nil => rw [h] at this; simp at this
      | cons _ _ => rfl
  | cons r x ih =>
    cases y with
    | nil =>
      rw [encL_cons]
      have := encodeRune_len r
      cases h : encodeRune r with
      | nil => rw [h] at this; simp at this
      | cons _ _ => rfl
    | cons q y =>
      rw [encL_cons, encL_cons]
      simp only [cmpL]
      have vr := hx r (by simp)
      have vq := hy q (by simp)
      by_cases h1 : r < q
      · rw [if_pos h1]; exact enc_lt r q vr vq h1 _ _
      · rw [if_neg h1]
        by_cases h2 : q < r
        · rw [if_pos h2, cmpB_flip, enc_lt q r vq vr h2]; rfl
        · rw [if_neg h2]
          obtain rfl : r = q := by omega
          rw [cmpB_same]
          exact ih y (fun z hz => hx z (by simp [hz])) (fun z hz => hy z (by simp [hz]))
theorem cmp_take (x : List Int) (k : Nat) (h : k ≤ x.length) : cmpL (x.take k) x = if k = x.length then 0 else -1 := by
  induction x generalizing k with
  | nil => simp at h; subst h; rfl
  | cons a x ih =>
    cases k with
    | zero => simp [cmpL]
    | succ k =>
      simp only [List.take_succ_cons, cmpL]
      simp only [List.length_cons] at h
      rw [if_neg (by omega), if_neg (by omega), ih k (by omega)]
      simp
end Go.Proofs.YthigbnklekdemaaDoor
