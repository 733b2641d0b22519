/- Texts that several proofs of this seat share, one behind the other: Plain Iter Decode Letters. -/
import Derived.Lib.MapLaws
import Derived.Lib.ValidLaws
import Derived.RangeFuncNested
import Derived.RangeFuncBound
import Derived.RangeFuncCalls
import Derived.RangeFuncLeaves
import Derived.RangeFuncBox
import Derived.Shelf.Abstract
import Derived.Shelf.RegionOpen
import Derived.OwnWalkIn
import Derived.TacticsInMore
import Derived.LoopNIn
import Derived.LoopIn
import Derived.Maps.AppendAt
import Derived.Scope
import Derived.Shelf.Unicode.DecodeAny
import Derived.Test.YtljaibhhkjapmaaDoorPk2
import Derived.Test.YtljaibhhkjapmaaDoorShelf
/- The runes of a text, plain: no program here. -/
namespace Go.Proofs.YtljaibhhkjapmaaDoor
open Go.Lib

/-- The bytes begin with no rune. -/
def badB (l : List UInt8) : Bool := decide ((decodeL l).1 = 65533 ∧ (decodeL l).2 = 1)
/-- What the iterator hands on: the runes, and -1 where the bytes are no text. -/
def itemsF : Nat → List UInt8 → List Int
  | 0, _ => []
  | n + 1, l => if l = [] then [] else if badB l then [-1] else ((decodeL l).1 : Int) :: itemsF n (l.drop (decodeL l).2)
def items (l : List UInt8) : List Int := itemsF l.length l

theorem itemsF_nil : ∀ n, itemsF n [] = []
  | 0 => rfl
  | _ + 1 => by simp [itemsF]
theorem itemsF_fuel : ∀ (n m : Nat) (l : List UInt8), l.length ≤ n → l.length ≤ m → itemsF n l = itemsF m l
  | 0, m, l, hn, _ => by
    have : l = [] := List.eq_nil_of_length_eq_zero (by omega)
    subst this; rw [itemsF_nil, itemsF_nil]
  | n + 1, 0, l, _, hm => by
    have : l = [] := List.eq_nil_of_length_eq_zero (by omega)
    subst this; rw [itemsF_nil, itemsF_nil]
  | n + 1, m + 1, l, hn, hm => by
    unfold itemsF
    by_cases hne : l = []
    · simp [hne]
    · have hw := decodeL_width l
      have hl : 0 < l.length := List.length_pos_iff.2 hne
      rw [if_neg hne, if_neg hne, itemsF_fuel n m (l.drop (decodeL l).2) (by rw [List.length_drop]; omega) (by rw [List.length_drop]; omega)]
theorem items_nil : items [] = [] := rfl
theorem items_step (l : List UInt8) (hne : l ≠ []) : items l = if badB l then [-1] else ((decodeL l).1 : Int) :: items (l.drop (decodeL l).2) := by
  have hl : 0 < l.length := List.length_pos_iff.2 hne
  have hw := decodeL_width l
  obtain ⟨n, hn⟩ : ∃ n, l.length = n + 1 := ⟨l.length - 1, by omega⟩
  unfold items
  rw [hn]
  show (if l = [] then [] else _) = _
  rw [if_neg hne, itemsF_fuel n (l.drop (decodeL l).2).length _ (by rw [List.length_drop]; omega) (Nat.le_refl _)]
theorem valid_step (l : List UInt8) (hne : l ≠ []) : validD l = if badB l then false else validD (l.drop (decodeL l).2) := by
  rw [validD_step l hne]; unfold badB
  by_cases h : (decodeL l).1 = 65533 ∧ (decodeL l).2 = 1 <;> simp [h]

/-- An induction along the runes. -/
theorem byRunes {C : List UInt8 → Prop} (h0 : C []) (h1 : ∀ l, l ≠ [] → badB l = true → C l) (h2 : ∀ l, l ≠ [] → badB l = false → C (l.drop (decodeL l).2) → C l) : ∀ l, C l := by
  intro l
  obtain ⟨n, hn⟩ : ∃ n, l.length = n := ⟨_, rfl⟩
  induction n using Nat.strongRecOn generalizing l with
  | _ n ih =>
    by_cases hne : l = []
    · subst hne; exact h0
    · cases hb : badB l with
      | true => exact h1 l hne hb
      | false =>
        refine h2 l hne hb (ih _ ?_ _ rfl)
        have hw := decodeL_width l
        have hl : 0 < l.length := List.length_pos_iff.2 hne
        rw [List.length_drop]; omega

theorem items_valid (l : List UInt8) : (∀ x ∈ items l, x ≠ -1) ↔ validD l = true := by
  refine byRunes (C := fun l => (∀ x ∈ items l, x ≠ -1) ↔ validD l = true) ?_ ?_ ?_ l
  · simp [items_nil, validD_nil]
  · intro l hne hb
    rw [items_step l hne, valid_step l hne, hb]; simp
  · intro l hne hb ih
    rw [items_step l hne, valid_step l hne, hb]
    simp only [Bool.false_eq_true, if_false, List.mem_cons, forall_eq_or_imp, ih]
    constructor
    · exact fun h => h.2
    · exact fun h => ⟨by omega, h⟩

theorem items_le (l : List UInt8) : (items l).length ≤ l.length := by
  refine byRunes (C := fun l => (items l).length ≤ l.length) ?_ ?_ ?_ l
  · simp [items_nil]
  · intro l hne hb
    have hl : 0 < l.length := List.length_pos_iff.2 hne
    rw [items_step l hne, hb]; simp; omega
  · intro l hne hb ih
    have hw := decodeL_width l
    have hl : 0 < l.length := List.length_pos_iff.2 hne
    rw [items_step l hne, hb]
    rw [List.length_drop] at ih
    simp; omega

theorem decodeL_rune (l : List UInt8) : Lib.validRune ((decodeL l).1 : Int) = true := by
  rw [decodeL_N]
  have k0 := (l.getD 0 0).toNat_lt
  have k1 := (l.getD 1 0).toNat_lt
  have k2 := (l.getD 2 0).toNat_lt
  have k3 := (l.getD 3 0).toNat_lt
  unfold Lib.validRune
  rcases decodeN_shape l.length (l.getD 0 0).toNat (l.getD 1 0).toNat (l.getD 2 0).toNat (l.getD 3 0).toNat with ⟨c, e⟩ | ⟨c1, c2, c3, cv, e⟩ | ⟨c1, c2, c3, c4, cv, cs, e⟩ | ⟨c1, c2, c3, c4, c5, cv, cw, e⟩ | e
  all_goals (rw [e]; dsimp only; simp only [decide_eq_true_eq]; omega)

theorem items_runes (l : List UInt8) (hv : validD l = true) : ∀ x ∈ items l, Lib.validRune x = true := by
  revert hv
  refine byRunes (C := fun l => validD l = true → ∀ x ∈ items l, Lib.validRune x = true) ?_ ?_ ?_ l
  · simp [items_nil]
  · intro l hne hb hv
    rw [valid_step l hne, hb] at hv; simp at hv
  · intro l hne hb ih hv
    rw [valid_step l hne, hb] at hv
    rw [items_step l hne, hb]
    simp only [Bool.false_eq_true, if_false] at hv ⊢
    intro x hx
    rcases List.mem_cons.1 hx with rfl | hx
    · exact decodeL_rune l
    · exact ih hv x hx

/-- The text of runes. -/
def encL (l : List Int) : List UInt8 := l.flatMap encodeRune
theorem encL_nil : encL [] = [] := rfl
theorem encL_cons (r : Int) (l : List Int) : encL (r :: l) = encodeRune r ++ encL l := rfl
theorem encL_append (x y : List Int) : encL (x ++ y) = encL x ++ encL y := by simp [encL]

/-- What was decoded is encoded as it was. -/
theorem enc_items (l : List UInt8) (hv : validD l = true) : encL (items l) = l := by
  revert hv
  refine byRunes (C := fun l => validD l = true → encL (items l) = l) ?_ ?_ ?_ l
  · simp [items_nil, encL]
  · intro l hne hb hv
    rw [valid_step l hne, hb] at hv; simp at hv
  · intro l hne hb ih hv
    rw [valid_step l hne, hb] at hv
    rw [items_step l hne, hb]
    simp only [Bool.false_eq_true, if_false] at hv ⊢
    rw [encL_cons, ih hv, encode_decode l hne (by unfold badB at hb; simpa using hb), List.take_append_drop]

theorem byteNat (z : Int) (n : Nat) (h : z = n) (hn : n < 256) : (z.toNat.toUInt8).toNat = n := by subst h; simp; omega
theorem decodeN_one (n m c d e : Nat) (h : n ≤ 127) : decodeN m n c d e = (n, 1) := by unfold decodeN; rw [if_pos (by omega)]
theorem decodeN_two (n m c d : Nat) (h0 : 128 ≤ n) (h1 : n ≤ 2047) (hm : 1 < m) : decodeN m (192 + n / 64) (128 + n % 64) c d = (n, 2) := by
  unfold decodeN; rw [if_neg (by omega), if_pos (by omega), if_pos (by omega), Prod.mk.injEq]; exact ⟨by omega, rfl⟩
theorem decodeN_three (n m d : Nat) (h0 : 2048 ≤ n) (h1 : n ≤ 65535) (h2 : n < 55296 ∨ 57343 < n) (hm : 2 < m) : decodeN m (224 + n / 4096) (128 + n / 64 % 64) (128 + n % 64) d = (n, 3) := by
  unfold decodeN; rw [if_neg (by omega), if_neg (by omega), if_pos (by omega), if_pos (by omega), Prod.mk.injEq]; exact ⟨by omega, rfl⟩
theorem decodeN_four (n m : Nat) (h0 : 65536 ≤ n) (h1 : n ≤ 1114111) (hm : 3 < m) : decodeN m (240 + n / 262144) (128 + n / 4096 % 64) (128 + n / 64 % 64) (128 + n % 64) = (n, 4) := by
  unfold decodeN; rw [if_neg (by omega), if_neg (by omega), if_neg (by omega), if_pos (by omega), if_pos (by omega), Prod.mk.injEq]; exact ⟨by omega, rfl⟩

/-- What was encoded is decoded: the first rune of an encoded rune and whatever follows. -/
theorem decode_encode (r : Int) (t : List UInt8) (h : Lib.validRune r = true) : decodeL (encodeRune r ++ t) = (r.toNat, (encodeRune r).length) := by
  have hv : (0 ≤ r ∧ r < 0xD800) ∨ (0xDFFF < r ∧ r ≤ 0x10FFFF) := by simpa [Lib.validRune] using h
  rw [decodeL_N]
  unfold encodeRune
  obtain ⟨n, rfl⟩ : ∃ n : Nat, r = n := ⟨r.toNat, by omega⟩
  by_cases a : n ≤ 127
  · rw [encodeRuneZ_one (by omega) (by omega)]
    simp only [List.map_cons, List.map_nil, List.cons_append, List.nil_append, List.length_cons, List.getD_cons_zero, List.getD_cons_succ, List.length_nil]
    rw [byteNat _ n rfl (by omega), decodeN_one _ _ _ _ _ (by omega)]; simp
  · by_cases b : n ≤ 2047
    · rw [encodeRuneZ_two (by omega) (by omega)]
      simp only [List.map_cons, List.map_nil, List.cons_append, List.nil_append, List.length_cons, List.getD_cons_zero, List.getD_cons_succ, List.length_nil]
      rw [byteNat _ (192 + n / 64) (by omega) (by omega), byteNat _ (128 + n % 64) (by omega) (by omega), decodeN_two _ _ _ _ (by omega) (by omega) (by omega)]; simp
    · by_cases c : n ≤ 65535
      · rw [encodeRuneZ_three (by omega)]
        simp only [List.map_cons, List.map_nil, List.cons_append, List.nil_append, List.length_cons, List.getD_cons_zero, List.getD_cons_succ, List.length_nil]
        rw [byteNat _ (224 + n / 4096) (by omega) (by omega), byteNat _ (128 + n / 64 % 64) (by omega) (by omega), byteNat _ (128 + n % 64) (by omega) (by omega), decodeN_three _ _ _ (by omega) (by omega) (by omega) (by omega)]; simp
      · rw [encodeRuneZ_four (by omega) (by omega)]
        simp only [List.map_cons, List.map_nil, List.cons_append, List.nil_append, List.length_cons, List.getD_cons_zero, List.getD_cons_succ, List.length_nil]
        rw [byteNat _ (240 + n / 262144) (by omega) (by omega), byteNat _ (128 + n / 4096 % 64) (by omega) (by omega), byteNat _ (128 + n / 64 % 64) (by omega) (by omega), byteNat _ (128 + n % 64) (by omega) (by omega), decodeN_four _ _ (by omega) (by omega) (by omega)]; simp

theorem encodeRune_len (r : Int) : 1 ≤ (encodeRune r).length ∧ (encodeRune r).length ≤ 4 := by
  have := encodeRuneZ_length r; simpa [encodeRune] using this
theorem encodeRune_len_valid (r : Int) (h : Lib.validRune r = true) (h1 : (encodeRune r).length = 1) : r ≠ 65533 := by
  rintro rfl
  rw [encodeRune, encodeRuneZ_three (by omega)] at h1; simp at h1
theorem valid_nonneg {r : Int} (h : Lib.validRune r = true) : 0 ≤ r := by
  have hv : (0 ≤ r ∧ r < 0xD800) ∨ (0xDFFF < r ∧ r ≤ 0x10FFFF) := by simpa [Lib.validRune] using h
  omega
/-- One rune in front of whatever bytes. -/
theorem items_enc (r : Int) (t : List UInt8) (h : Lib.validRune r = true) : items (encodeRune r ++ t) = r :: items t ∧ validD (encodeRune r ++ t) = validD t := by
  have hl := encodeRune_len r
  have hne : encodeRune r ++ t ≠ [] := by intro e; have := congrArg List.length e; rw [List.length_append, List.length_nil] at this; omega
  have hd := decode_encode r t h
  have hb : badB (encodeRune r ++ t) = false := by
    unfold badB; rw [hd]
    simp only [decide_eq_false_iff_not]
    rintro ⟨a, b⟩
    have h0 := valid_nonneg h
    exact encodeRune_len_valid r h b (by omega)
  rw [items_step _ hne, valid_step _ hne, hb, hd]
  simp only [Bool.false_eq_true, if_false]
  rw [List.drop_left]
  have h0 := valid_nonneg h
  exact ⟨by rw [Int.toNat_of_nonneg h0], rfl⟩
theorem items_encL (l : List Int) (t : List UInt8) (h : ∀ r ∈ l, Lib.validRune r = true) : items (encL l ++ t) = l ++ items t ∧ validD (encL l ++ t) = validD t := by
  induction l with
  | nil => simp [encL]
  | cons r l ih =>
    rw [encL_cons, List.append_assoc]
    have h1 := items_enc r (encL l ++ t) (h r (by simp))
    have h2 := ih (fun x hx => h x (by simp [hx]))
    rw [h1.1, h1.2, h2.1, h2.2]; simp
/-- What is encoded is a text, and decoded as it was. -/
theorem items_of_enc (l : List Int) (h : ∀ r ∈ l, Lib.validRune r = true) : items (encL l) = l ∧ validD (encL l) = true := by
  have := items_encL l [] h
  simpa [items_nil, validD_nil] using this
/-- Two texts one behind the other, the first a text. -/
theorem items_join (a b : List UInt8) (ha : validD a = true) : items (a ++ b) = items a ++ items b ∧ validD (a ++ b) = validD b := by
  have h := items_encL (items a) b (items_runes a ha)
  rwa [enc_items a ha] at h
theorem encL_le (l : List Int) : (encL l).length ≤ 4 * l.length := by
  induction l with
  | nil => simp [encL]
  | cons r l ih => rw [encL_cons, List.length_append, List.length_cons]; have := encodeRune_len r; omega
theorem items_eq_nil (l : List UInt8) : items l = [] ↔ l = [] := by
  constructor
  · intro h
    by_cases hne : l = []
    · exact hne
    · rw [items_step l hne] at h; split at h <;> simp at h
  · rintro rfl; rfl
/-- A letter. -/
def letterB (r : Int) : Bool := decide ((65 ≤ r ∧ r ≤ 90) ∨ (97 ≤ r ∧ r ≤ 122) ∨ (192 ≤ r ∧ Lib.validRune r = true ∧ r ≠ 215 ∧ r ≠ 247 ∧ ¬ (8192 ≤ r ∧ r ≤ 8303)))
end Go.Proofs.YtljaibhhkjapmaaDoor

/- The runes that runesOf hands on: the iterator's contract, for every text, and for bytes that are none. -/
namespace Go.Proofs.YtljaibhhkjapmaaDoor
open Go.RowKit Go.Shelf
attribute [local go_sem] Oper.semAt_some

/-- The two tables of unicode/utf8, as they are laid. -/
abbrev Tabs (w : World) : Prop := Lib.Utf8Tabs 1 2 w
theorem Tabs.below {w w' : World} (h : Tabs w) (hb : Below w.heap.size w w') : Tabs w' := Utf8Tabs_below h hb

theorem decodeGo_at (s : ByteArray) (k : Nat) (h : k < s.size) : Lib.decodeGo (s.extract k s.size) = Lib.decodeL (s.data.toList.drop k) := by
  have hsz : ¬ (s.extract k s.size).size = 0 := by simp; omega
  unfold Lib.decodeGo Lib.decodeL
  rw [if_neg hsz]
  congr 1
  have := Lib.extract_to_end s k
  rw [← this]
theorem drop_ne (s : ByteArray) (k : Nat) (h : k < s.size) : s.data.toList.drop k ≠ [] := by
  intro e
  have := congrArg List.length e
  rw [List.length_drop, List.length_nil, ← Lib.size_eq] at this
  omega
theorem grown_none {w w' : World} (h : Below w.heap.size w w') : w.grownBy w' none := ⟨h.os, h.tape, h.output, h.size, fun k hk _ => h.block k hk⟩

/-- What a round keeps: all below n₀, and the box of the text. -/
def Keep (n₀ Bs : Nat) (W W' : World) : Prop := Below n₀ W W' ∧ W'.heap[Bs]? = W.heap[Bs]?
theorem Keep.refl (n₀ Bs : Nat) (W : World) : Keep n₀ Bs W W := ⟨Below.refl _ _, rfl⟩
theorem Keep.trans {n₀ Bs : Nat} {A B C : World} (h : Keep n₀ Bs A B) (k : Keep n₀ Bs B C) : Keep n₀ Bs A C := ⟨h.1.trans k.1, k.2.trans h.2⟩
theorem Keep.of_below {n₀ Bs : Nat} {A B : World} (h : Below A.heap.size A B) (hn : n₀ ≤ A.heap.size) (hB : Bs < A.heap.size) : Keep n₀ Bs A B := ⟨h.mono hn, h.block Bs hB⟩
theorem keepK_b {n₀ Bs : Nat} {w : World} (hn : n₀ ≤ w.heap.size) (hBs : Bs < w.heap.size) (W : World) (l : Nat) (o o' : Obj) (hl : w.heap.size ≤ l) (h : W.heap[l]? = some o) (h1 : o.isCells = false) (h2 : o.isWalk = false) : Keep n₀ Bs W (W.putObj l o') :=
  ⟨belowK_b hn W l o o' hl h h1 h2, World.putObj_heap_other (fun e => by omega)⟩

set_option maxRecDepth 100000 in
set_option maxHeartbeats 2000000 in
theorem iter_in (n : Nat) (hn : 1 ≤ n) (l Bs n₀ : Nat) (s : ByteArray) (hs : s.size ≤ maxLen) (J Jx : List Int → World → Prop)
    (W : World) (hJ : AbidesFrom W.heap.size J)
    (hY : ∀ pre x W1, J pre W1 → pre.length < s.size → YieldAt Fence.wide (n - 1) Tryd.prog l #[.int .i32 x] W1 fun e W' =>
      (e = .returned (.bool true) ∧ J (pre ++ [x]) W' ∧ Keep n₀ Bs W1 W') ∨ (e = .returned (.bool false) ∧ Jx (pre ++ [x]) W'))
    (hn0 : n₀ ≤ W.heap.size) (hBs : Bs < W.heap.size) (hT0 : Tabs W) (hlow : 1 < n₀ ∧ 2 < n₀)
    (hc : W.cell? ⟨Bs, 0, none⟩ = some (.string s)) (h0 : J [] W) :
    CallsIn Fence.wide n Tryd.prog 120 #[.func (.yield l) #[] #[], .pointer (some ⟨Bs, 0, none⟩)] W fun e W' => (∃ v, e = .returned v) ∧
      ((∃ ys, ys = items s.data.toList ∧ J ys W') ∨ (∃ pre, pre <+: items s.data.toList ∧ Jx pre W')) := by
  unfold maxLen at hs
  refine callsIn_of_wp Tryd.func120 rfl trivial ?_ rfl
  simp only [Tryd.ntmps120, List.size_toArray, List.length_cons, List.length_nil, Nat.reduceAdd, Nat.reduceSub, Array.replicate_succ, Array.replicate_zero, List.push_toArray, List.append_toArray, List.nil_append, List.cons_append]
  gi_wp2
  gi_loopw [3] (fun p wr => ∃ (k : Nat) (pre : List Int), p = .int .i64 k ∧ k ≤ s.size ∧ pre.length ≤ k ∧ Hid (items s.data.toList = pre ++ items (s.data.toList.drop k)) ∧ J pre wr ∧ Keep n₀ Bs W wr)
    (fun p _ => s.size - (intOf p).toNat)
  case atStart => exact ⟨0, [], rfl, Nat.zero_le _, Nat.le_refl _, Lib.hid (by simp), h0, Keep.refl _ _ _⟩
  case round =>
    obtain ⟨k, pre, rfl, hk, hpk, HI, hJs, hKB⟩ := hrel
    have hB := hKB.1
    have hcell : wr.cell? ⟨Bs, 0, none⟩ = some (.string s) := (World.cell?_of_block hKB.2).trans hc
    have hT : Tabs wr := ⟨fun c h => (hB.cell (p := ⟨_, c, none⟩) hlow.1).trans (hT0.1 c h), fun i h => ⟨(hB.cell (p := ⟨_, 2 * i, none⟩) hlow.2).trans (hT0.2 i h).1, (hB.cell (p := ⟨_, 2 * i + 1, none⟩) hlow.2).trans (hT0.2 i h).2⟩⟩
    by_cases hlt : k < s.size
    · have hd := decodeGo_at s k hlt
      have hne := drop_ne s k hlt
      have hst := items_step _ hne
      have hle := Lib.decodeL_le _ hne
      have hwd := Lib.decodeL_width (s.data.toList.drop k)
      rw [List.length_drop, ← Lib.size_eq] at hle
      have C := Lib.hid (Tryd.utf8_DecodeRuneInString (s.extract k s.size) wr hT)
      rw [hd] at C
      have hbd : badB (s.data.toList.drop k) = decide ((Lib.decodeL (s.data.toList.drop k)).1 = 65533 ∧ (Lib.decodeL (s.data.toList.drop k)).2 = 1) := rfl
      have hdd : items ((s.data.toList.drop k).drop (Lib.decodeL (s.data.toList.drop k)).2) = items (s.data.toList.drop (k + (Lib.decodeL (s.data.toList.drop k)).2)) := by rw [List.drop_drop]
      rw [hdd] at hst
      obtain ⟨R, hR⟩ : ∃ R, (Lib.decodeL (s.data.toList.drop k)).1 = R := ⟨_, rfl⟩
      obtain ⟨K, hK⟩ : ∃ K, (Lib.decodeL (s.data.toList.drop k)).2 = K := ⟨_, rfl⟩
      rw [hR, hK] at C hst hbd
      rw [hK] at hle hwd
      rw [hbd] at hst
      have HS := Lib.hid hst
      clear hst hbd hdd hR hK hd hne
      by_cases hbad : R = 65533 ∧ K = 1
      · obtain ⟨rfl, rfl⟩ := hbad
        gi_wp2_with (refine ⟨trivial, ?_⟩; gi_at_call 121; refine (callsIn_wide.2 C.out).mono ?_; rintro e w1 ⟨rfl, hb1⟩; have hJ1 : J pre w1 := hJ _ _ _ none hJs (grown_none hb1) (fun _ h => by cases h); obtain ⟨fn, tmps, assign, body, hy, hR⟩ := hY pre (-1) w1 hJ1 (by omega))
        refine hR.mono ?_
        rintro e W3 (⟨rfl, hJ3, hk3⟩ | ⟨rfl, hJx3⟩)
        · gi_wp2
          refine bodyPost_ret (results_none rfl _ _ _) rfl ?_
          exact ⟨⟨_, rfl⟩, .inl ⟨pre ++ [-1], by rw [HI.out, HS.out]; simp, hJ3⟩⟩
        · gi_wp2
          refine bodyPost_ret (results_none rfl _ _ _) rfl ?_
          exact ⟨⟨_, rfl⟩, .inr ⟨pre ++ [-1], by rw [HI.out, HS.out]; simp, hJx3⟩⟩
      · have HS2 : Hid (items (s.data.toList.drop k) = (R : Int) :: items (s.data.toList.drop (k + K))) := Lib.hid (by rw [HS.out]; simp [hbad])
        by_cases hr : R = 65533
        · subst hr
          have hk1 : ((K : Int) == 1) = false := by simp; omega
          clear hbad
          gi_wp2_with (refine ⟨trivial, ?_⟩; gi_at_call 121; refine (callsIn_wide.2 C.out).mono ?_; rintro e w1 ⟨rfl, hb1⟩; have hJ1 : J pre w1 := hJ _ _ _ none hJs (grown_none hb1) (fun _ h => by cases h); have hB1 : Keep n₀ Bs W w1 := hKB.trans (Keep.of_below hb1 (Nat.le_trans hn0 hB.size) (Nat.lt_of_lt_of_le hBs hB.size)); obtain ⟨fn, tmps, assign, body, hy, hR⟩ := hY pre 65533 w1 hJ1 (by omega))
          refine hR.mono ?_
          rintro e W3 (⟨rfl, hJ3, hk3⟩ | ⟨rfl, hJx3⟩)
          · gi_wp2
            go_roundw
            case rel => exact ⟨k + K, pre ++ [65533], by go_num, by omega, by simp; omega, Lib.hid (by rw [HI.out, HS2.out]; simp), hJ3, hB1.trans hk3⟩
            case measure => simp [intOf]; omega
          · gi_wp2
            refine bodyPost_ret (results_none rfl _ _ _) rfl ?_
            exact ⟨⟨_, rfl⟩, .inr ⟨pre ++ [65533], by rw [HI.out, HS2.out]; simp [List.prefix_append_right_inj], hJx3⟩⟩
        · have hr1 : ((R : Int) == 65533) = false := by simp; omega
          clear hbad
          gi_wp2_with (refine ⟨trivial, ?_⟩; gi_at_call 121; refine (callsIn_wide.2 C.out).mono ?_; rintro e w1 ⟨rfl, hb1⟩; have hJ1 : J pre w1 := hJ _ _ _ none hJs (grown_none hb1) (fun _ h => by cases h); have hB1 : Keep n₀ Bs W w1 := hKB.trans (Keep.of_below hb1 (Nat.le_trans hn0 hB.size) (Nat.lt_of_lt_of_le hBs hB.size)); obtain ⟨fn, tmps, assign, body, hy, hR⟩ := hY pre (R : Nat) w1 hJ1 (by omega))
          refine hR.mono ?_
          rintro e W3 (⟨rfl, hJ3, hk3⟩ | ⟨rfl, hJx3⟩)
          · gi_wp2
            go_roundw
            case rel => exact ⟨k + K, pre ++ [(R : Int)], by go_num, by omega, by simp; omega, Lib.hid (by rw [HI.out, HS2.out]; simp), hJ3, hB1.trans hk3⟩
            case measure => simp [intOf]; omega
          · gi_wp2
            refine bodyPost_ret (results_none rfl _ _ _) rfl ?_
            exact ⟨⟨_, rfl⟩, .inr ⟨pre ++ [(R : Int)], by rw [HI.out, HS2.out]; simp [List.prefix_append_right_inj], hJx3⟩⟩
    · obtain rfl : k = s.size := by omega
      gi_wp2
      go_end0
      exact ⟨⟨_, rfl⟩, .inl ⟨pre, by rw [HI.out, List.drop_of_length_le (by rw [← Lib.size_eq]; exact Nat.le_refl _), items_nil, List.append_nil], hJs⟩⟩

/-- runesOf(s): s is boxed, and the function value captures the box. -/
theorem runesOf_any (s : ByteArray) (w : World) :
    Calls Tryd.prog 108 #[.string s] w fun e w' => e = .returned (.func (.func 120) #[] #[.pointer (some ⟨w.heap.size, 0, none⟩)]) ∧ w' = w.alloc (.cells #[.string s] 9) := by
  go_enter Tryd.func108, Tryd.ntmps108
  go_wp2
  go_ret
  exact ⟨rfl, rfl⟩

theorem iter_stops (n : Nat) (hn : 1 ≤ n) (Bs n₀ : Nat) (s : ByteArray) (hs : s.size ≤ maxLen) (w : World) (hn0 : n₀ ≤ w.heap.size) (hBs : Bs < w.heap.size) (hT : Tabs w) (hlow : 1 < n₀ ∧ 2 < n₀)
    (hc : w.cell? ⟨Bs, 0, none⟩ = some (.string s)) :
    SeqStopsK Fence.wide n Tryd.prog 120 #[.pointer (some ⟨Bs, 0, none⟩)] (fun x : Int => #[Value.int .i32 x]) (Keep n₀ Bs) (fun ys => ys = items s.data.toList) (fun pre => pre <+: items s.data.toList) s.size w :=
  fun l J Jx W hW hJ _ hY h0 => iter_in n hn l Bs n₀ s hs J Jx W hJ hY (Nat.le_trans hn0 hW.size) (Nat.lt_of_lt_of_le hBs hW.size) (hT.below hW) hlow ((hW.cell (p := ⟨Bs, 0, none⟩) hBs).trans hc) h0
end Go.Proofs.YtljaibhhkjapmaaDoor

/- runes.Decode, Letter, Letters, Token: what each answers, for every string. -/
namespace Go.Proofs.YtljaibhhkjapmaaDoor
open Go.RowKit Go.Shelf
attribute [local go_sem] Oper.semAt_some

theorem info32 : (Tryd.prog.info? 21).map (fun i => (i.zero, i.size, i.bytes)) = some (some (.int .i32 0), 1, 4) := by kernel_rfl

/-- What Decode answers: the runes and 0, or nothing and 3. -/
def DecPost (s : ByteArray) (w : World) (e : Ending) (w' : World) : Prop :=
  ∃ v, e = .returned (.tuple #[v, .int .i64 (if Lib.validD s.data.toList then 0 else 3)]) ∧
    w'.ownsRow w.heap.size 21 1 v (if Lib.validD s.data.toList then items s.data.toList else []).length ((if Lib.validD s.data.toList then items s.data.toList else []).map (Value.int .i32)) ∧ Below w.heap.size w w'

set_option maxRecDepth 100000 in
set_option maxHeartbeats 2000000 in
theorem decode_any (s : ByteArray) (w : World) (hs : s.size * 4 ≤ 140737488355328) (hT : Tabs w) (hlow : 1 < w.heap.size ∧ 2 < w.heap.size) :
    Calls Tryd.prog 82 #[.string s] w (DecPost s w) := by
  have hsm : s.size ≤ maxLen := by unfold maxLen; omega
  obtain ⟨i0, hi, hz0, hz1, hz2⟩ := info_parts info32
  refine (callsIn_wide (n := 6)).1 ?_
  refine callsIn_of_wp_marks Tryd.func82 rfl trivial ?_ rfl
  simp only [Tryd.ntmps82, List.size_toArray, List.length_cons, List.length_nil, Nat.reduceAdd, Nat.reduceSub, Array.replicate_succ, Array.replicate_zero, List.push_toArray, List.append_toArray, List.nil_append, List.cons_append]
  gi_wp2
  refine wpIn_wide.2 (wp_scope_straight ((wpIn_wide (n := 6)).1 ?_))
  gi_wp2_with (first | (refine ⟨trivial, ?_⟩; gi_at_call 108; refine (callsIn_wide.2 (runesOf_any _ _)).mono ?_; rintro e w' ⟨rfl, rfl⟩) | (refine wpIn_label ?_))
  have bL := Boxed.new w 84 (.slice none 0 0)
  have bE := Boxed.new (w.alloc (.cells #[.slice none 0 0] 84)) 26 (.int .i64 0)
  have bS := Boxed.new ((w.alloc (.cells #[.slice none 0 0] 84)).alloc (.cells #[.int .i64 0] 26)) 9 (.string s)
  rw [World.size_alloc] at bE
  rw [World.size_alloc, World.size_alloc] at bS
  have hB0 : Below w.heap.size w (((w.alloc (.cells #[.slice none 0 0] 84)).alloc (.cells #[.int .i64 0] 26)).alloc (.cells #[.string s] 9)) := (((Below.refl _ w).alloc (Nat.le_refl _) _).alloc (by simp) _).alloc (by simp; omega) _
  refine wpIn_rangeFunc_ownG rfl (by decide) (gf := 120) (lb := #[.pointer (some ⟨w.heap.size + 1 + 1, 0, none⟩)]) rfl trivial (enters_of Tryd.func120 (by kernel_rfl) rfl)
    (iter_stops 5 (by decide) (w.heap.size + 1 + 1) w.heap.size s hsm _ (by simp; omega) (by simp) (hT.below hB0) hlow bS.cell) Keep.trans (keepK_b (by simp; omega) (by simp)) (Below.refl _ _) (fun _ => rfl)
    (fun (pre : List Int) W => (((∃ v, Boxed W w.heap.size 84 v ∧ W.ownsRow w.heap.size 21 1 v pre.length (pre.map (Value.int .i32)) ∧ ∀ x ∈ pre, x ≠ -1) ∧ Boxed W (w.heap.size + 1) 26 (.int .i64 0)) ∧ Boxed W (w.heap.size + 1 + 1) 9 (.string s)) ∧ Below w.heap.size w W)
    (fun c (pre : List Int) W => (((c = .exit 0 ∧ (-1) ∈ pre) ∧ Boxed W w.heap.size 84 (.slice none 0 0)) ∧ Boxed W (w.heap.size + 1) 26 (.int .i64 3)) ∧ Below w.heap.size w W)
    (OwnFrom.and (OwnFrom.and (OwnFrom.and (Own.from (holdsRow_own w.heap.size w.heap.size 84 21 1 (fun pre : List Int => pre.length) (fun pre : List Int => pre.map (Value.int .i32)) (fun (pre : List Int) _ => ∀ x ∈ pre, x ≠ -1)) _) (Own.from (boxed_own _ _ _) _)) (Own.from (boxed_own _ _ _) _)) (ownFrom_below (Nat.le_refl _) (by simp; omega)))
    (fun c => OwnFrom.and (OwnFrom.and (OwnFrom.and (ownFrom_pure _ (fun pre : List Int => c = .exit 0 ∧ (-1) ∈ pre)) (Own.from (boxed_own _ _ _) _)) (Own.from (boxed_own _ _ _) _)) (ownFrom_below (Nat.le_refl _) (by simp; omega)))
    ⟨⟨⟨⟨_, (bL.alloc _).alloc _, World.ownsRow_nil _ _ _ _, by simp⟩, bE.alloc _⟩, bS⟩, hB0⟩
    (fun x => { tmps := #[.string s, undef, .slice none 0 0, .int .i64 0, .pointer (some ⟨w.heap.size, 0, none⟩), .pointer (some ⟨w.heap.size + 1, 0, none⟩), .int .i32 x, .string s, .func (.func 120) #[] #[.pointer (some ⟨w.heap.size + 1 + 1, 0, none⟩)], .int .i32 x, undef, undef, undef, undef, undef, undef, undef, undef, undef], defers := [] }) ?assign ?body ?done ?stop
  case assign =>
    intro l x W K hK
    gi_wp2
    exact hK
  case body =>
    rintro l pre x W ⟨⟨⟨⟨v, hv, hrow, hno⟩, hE⟩, hS⟩, hB⟩ hlt
    have hno' := Lib.hid hno; clear hno
    have hc := hv.cell
    have hce := hE.cell
    have hf := hv.frozen
    have hfe := hE.frozen
    by_cases hx : x = -1
    · subst hx
      gi_wp2
      exact ⟨((KeepsOthers.setCell _ _ _).trans (KeepsOthers.setCell _ _ _)).from _, ⟨⟨⟨rfl, by simp⟩, (hv.set _).other (by omega) _⟩, (hE.other (by omega) _).set _⟩, (hB.setCell (p := ⟨w.heap.size, 0, none⟩) (Nat.le_refl _) _).setCell (p := ⟨w.heap.size + 1, 0, none⟩) (Nat.le_succ _) _⟩
    · have hx1 : (x == -1) = false := by simpa using hx
      gi_wp2_with (gi_at_builtin; refine wpListIn_append_own _ rfl _ _ 84 rfl w.heap.size 21 i0 (.int .i32 0) 1 4 Tryd.underlying84 hi hz0 hz1 hz2 rfl (by decide) _ _ _ rfl (hrow.alloc _) ⟨W.heap.size, 0, none⟩ 1 1 [.int .i32 x] rfl rfl (cell_one_new _ _ _) (by simp [Value.oneCell']) (by unfold maxLen; omega) (by omega) (by have := hB.size; simp; omega) ?_; intro v' w1 hown' hgrow _; obtain ⟨g', cap', rfl⟩ := ownsRow_succ hown'; have hE1 := ((hE.alloc _).kept hgrow (hE.not_row (by decide) hrow)).other (by omega : w.heap.size + 1 ≠ w.heap.size) (.slice (some ⟨g', 0, none⟩) (pre.length + 1) cap'); have hS1 := ((hS.alloc _).kept hgrow (hS.not_row (by decide) hrow)).other (by omega : w.heap.size + 1 + 1 ≠ w.heap.size) (.slice (some ⟨g', 0, none⟩) (pre.length + 1) cap'); obtain ⟨hv1, hv2, hr2, hk2, hb2⟩ := hv.appended (by decide) hrow hB.size (Nat.le_refl _) hown' hgrow; have hc1 := hv1.cell; have hf1 := hv1.frozen)
      exact ⟨hk2.from _, ⟨hb2, Eq.trans hS1 (Eq.symm hS)⟩, ⟨⟨⟨_, hv2, by simpa using hr2, fun y hy => by rcases List.mem_append.1 hy with h | h; exact hno'.out y h; simp at h; omega⟩, hE1⟩, hS1⟩, hB.trans hb2⟩
  case done =>
    rintro D ys W hD rfl ⟨⟨⟨⟨v, hv, hrow, hno⟩, hE⟩, hS⟩, hB⟩ hK
    have hc := hv.cell
    have hce := hE.cell
    gi_wp2
    gi_region
    gi_wp2
    refine ⟨by simp, .inl ⟨_, _, rfl, run_takeDeferred hK, ?_⟩⟩
    have hval : Lib.validD s.data.toList = true := (items_valid _).1 hno
    refine ⟨_, results_tmp2 rfl _ _ _, ?_⟩
    unfold DecPost
    rw [hval]
    exact ⟨v, rfl, ownsRow_putObj (W := W.drew) hrow _ hK rfl, hB.drew.trans (belowK_b (w := w) (Nat.le_refl _) W.drew D _ _ (by simp at hD; omega) hK rfl rfl)⟩
  case stop =>
    rintro D c pre W hD hp ⟨⟨⟨⟨rfl, hm⟩, hv⟩, hE⟩, hB⟩ hK
    have hc := hv.cell
    have hce := hE.cell
    gi_wp2
    gi_region
    gi_wp2
    refine ⟨by simp, .inl ⟨_, _, rfl, run_takeDeferred hK, ?_⟩⟩
    have hval : Lib.validD s.data.toList = false := by
      cases h : Lib.validD s.data.toList with
      | false => rfl
      | true => exact absurd rfl ((items_valid _).2 h _ (hp.subset hm))
    refine ⟨_, results_tmp2 rfl _ _ _, ?_⟩
    unfold DecPost
    rw [hval]
    exact ⟨_, rfl, World.ownsRow_nil _ _ _ _, hB.drew.trans (belowK_b (w := w) (Nat.le_refl _) W.drew D _ _ (by simp at hD; omega) hK rfl rfl)⟩
end Go.Proofs.YtljaibhhkjapmaaDoor

/- runes.Letter, Letters, Token: what each answers, for every number and every string. -/
namespace Go.Proofs.YtljaibhhkjapmaaDoor
open Go.RowKit Go.Shelf
attribute [local go_sem] Oper.semAt_some

theorem letter_cases (r : Int) : r < 65 ∨ (65 ≤ r ∧ r ≤ 90) ∨ (91 ≤ r ∧ r ≤ 96) ∨ (97 ≤ r ∧ r ≤ 122) ∨ (123 ≤ r ∧ r ≤ 191) ∨ r = 215 ∨ r = 247 ∨ (8192 ≤ r ∧ r ≤ 8303) ∨ (192 ≤ r ∧ r ≤ 214) ∨ (216 ≤ r ∧ r ≤ 246) ∨ (248 ≤ r ∧ r ≤ 8191) ∨ 8304 ≤ r := by omega
theorem letter_hi (r : Int) (h : 192 ≤ r) (h1 : r ≠ 215) (h2 : r ≠ 247) (h3 : ¬ (8192 ≤ r ∧ r ≤ 8303)) : Lib.validRune r = letterB r := by
  unfold letterB
  cases hv : Lib.validRune r
  · symm; simp only [decide_eq_false_iff_not]; intro h; rcases h with h | h | h
    · omega
    · omega
    · exact absurd h.2.1 (by simp)
  · symm; simp only [decide_eq_true_eq]; right; right; exact ⟨h, by simp, h1, h2, h3⟩
theorem letter_no (r : Int) (h : r < 65 ∨ (91 ≤ r ∧ r ≤ 96) ∨ (123 ≤ r ∧ r ≤ 191) ∨ r = 215 ∨ r = 247 ∨ (8192 ≤ r ∧ r ≤ 8303)) : letterB r = false := by
  unfold letterB; simp only [decide_eq_false_iff_not]; intro h'; rcases h' with h' | h' | ⟨h1, h2, h3, h4, h5⟩ <;> omega
theorem letter_yes (r : Int) (h : (65 ≤ r ∧ r ≤ 90) ∨ (97 ≤ r ∧ r ≤ 122)) : letterB r = true := by
  unfold letterB; simp only [decide_eq_true_eq]; omega

/-- Letters: some bytes, and nothing but letters. -/
def lettersB (l : List UInt8) : Bool := !l.isEmpty && (items l).all letterB


def decErr (l : List UInt8) : Int := if Lib.validD l then 0 else 3
def decRunes (l : List UInt8) : List Int := if Lib.validD l then items l else []
/-- Decode, its answer read as a list. -/
theorem decode_runs (s : ByteArray) (w : World) (hs : s.size * 4 ≤ 140737488355328) (hT : Tabs w) (hlow : 1 < w.heap.size ∧ 2 < w.heap.size) :
    Calls Tryd.prog 82 #[.string s] w fun e w' => ∃ A c, e = .returned (.tuple #[.slice A (decRunes s.data.toList).length c, .int .i64 (decErr s.data.toList)]) ∧ Runs w' (.slice A (decRunes s.data.toList).length c) (decRunes s.data.toList) ∧ Below w.heap.size w w' := by
  refine (decode_any s w hs hT hlow).mono ?_
  rintro e w' ⟨v, rfl, hrow, hb⟩
  have hr : Runs w' v (decRunes s.data.toList) := Runs.of_own hrow
  have hr' := hr
  obtain ⟨A, c, rfl, _⟩ := hr'
  exact ⟨A, c, rfl, hr, hb⟩

def tokErr (l : List UInt8) : Int := if Lib.validD l then (if (items l).length = 0 then 4 else if 64 < (items l).length then 5 else 0) else 3
def tokRunes (l : List UInt8) : List Int := if tokErr l = 0 then items l else []

set_option maxRecDepth 100000 in
set_option maxHeartbeats 1000000 in
theorem token_any (s : ByteArray) (w : World) (hs : s.size * 4 ≤ 140737488355328) (hT : Tabs w) (hlow : 1 < w.heap.size ∧ 2 < w.heap.size) :
    Calls Tryd.prog 115 #[.string s] w fun e w' => ∃ A c, e = .returned (.tuple #[.slice A (tokRunes s.data.toList).length c, .int .i64 (tokErr s.data.toList)]) ∧ Runs w' (.slice A (tokRunes s.data.toList).length c) (tokRunes s.data.toList) ∧ Below w.heap.size w w' := by
  have c := decode_runs s w hs hT hlow
  cases hv : Lib.validD s.data.toList
  · have e1 : decErr s.data.toList = 3 := by simp [decErr, hv]
    have e2 : decRunes s.data.toList = [] := by simp [decRunes, hv]
    have t1 : tokErr s.data.toList = 3 := by simp [tokErr, hv]
    have t2 : tokRunes s.data.toList = [] := by simp [tokRunes, t1]
    rw [e1, e2] at c
    rw [t1, t2]
    have C := Lib.hid c
    clear c e1 e2 t1 t2 hv
    go_enter Tryd.func115, Tryd.ntmps115
    go_wp2_with fail
    refine C.out.mono ?_
    rintro e w' ⟨A, c, rfl, hr, hb⟩
    go_wp2
    go_ret2
    exact ⟨none, 0, rfl, Runs.nil_ _, hb⟩
  · have e1 : decErr s.data.toList = 0 := by simp [decErr, hv]
    have e2 : decRunes s.data.toList = items s.data.toList := by simp [decRunes, hv]
    rw [e1, e2] at c
    have t1 : tokErr s.data.toList = if (items s.data.toList).length = 0 then 4 else if 64 < (items s.data.toList).length then 5 else 0 := by simp [tokErr, hv]
    have C := Lib.hid c
    clear c e1 e2
    by_cases h0 : (items s.data.toList).length = 0
    · rw [if_pos h0] at t1
      have t2 : tokRunes s.data.toList = [] := by simp [tokRunes, t1]
      rw [t1, t2]
      rw [h0] at C
      clear t1 t2 hv h0
      go_enter Tryd.func115, Tryd.ntmps115
      go_wp2_with fail
      refine C.out.mono ?_
      rintro e w' ⟨A, c, rfl, hr, hb⟩
      go_wp2
      go_ret2
      exact ⟨none, 0, rfl, Runs.nil_ _, hb⟩
    · rw [if_neg h0] at t1
      by_cases h1 : 64 < (items s.data.toList).length
      · rw [if_pos h1] at t1
        have t2 : tokRunes s.data.toList = [] := by simp [tokRunes, t1]
        rw [t1, t2]
        obtain ⟨n, hn⟩ : ∃ n, (items s.data.toList).length = n := ⟨_, rfl⟩
        rw [hn] at C h0 h1
        have h2 : ((n : Int) == 0) = false := by simp; omega
        clear t1 t2 hv hn
        go_enter Tryd.func115, Tryd.ntmps115
        go_wp2_with fail
        refine C.out.mono ?_
        rintro e w' ⟨A, c, rfl, hr, hb⟩
        go_wp2
        go_ret2
        exact ⟨none, 0, rfl, Runs.nil_ _, hb⟩
      · rw [if_neg h1] at t1
        have t2 : tokRunes s.data.toList = items s.data.toList := by simp [tokRunes, t1]
        rw [t1, t2]
        obtain ⟨n, hn⟩ : ∃ n, (items s.data.toList).length = n := ⟨_, rfl⟩
        rw [hn] at C h0 h1 ⊢
        have h2 : ((n : Int) == 0) = false := by simp; omega
        clear t1 t2 hv hn
        go_enter Tryd.func115, Tryd.ntmps115
        go_wp2_with fail
        refine C.out.mono ?_
        rintro e w' ⟨A, c, rfl, hr, hb⟩
        go_wp2
        go_ret2
        exact ⟨A, c, rfl, hr, hb⟩
end Go.Proofs.YtljaibhhkjapmaaDoor

