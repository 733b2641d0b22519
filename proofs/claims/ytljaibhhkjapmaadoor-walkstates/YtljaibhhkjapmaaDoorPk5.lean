/- Texts that several proofs of this seat share, one behind the other: Plain2 Join RefSmall RefFirst Write Encode Back Tokens. -/
import Derived.Test.YtljaibhhkjapmaaDoorPk2
import Derived.Test.YtljaibhhkjapmaaDoorPk3
import Derived.Lib.Small
import Derived.Lib.Strings
import Derived.Lib.Bytealg
import Derived.Test.YtljaibhhkjapmaaDoorPk4
import Derived.OwnWalk
import Derived.Maps.AppendAt
import Derived.IntWalk
import Derived.BigRegion
import Derived.Deep.RegionWith
import Derived.Laws.IdiomStrings
import Derived.Shelf.Strings.BuilderRune
import Derived.Test.YtljaibhhkjapmaaDoorProg
import Derived.Lib.RuneCount
import Derived.Lib.RuneCountTail
import Derived.OpenShut
/- Two texts one behind the other; texts compare as their bytes do: plain. -/
namespace Go.Proofs.YtljaibhhkjapmaaDoor
open Go.Lib

theorem rune_bd {r : Int} (h : Lib.validRune r = true) : (0 ≤ r ∧ r < 0xD800) ∨ (0xDFFF < r ∧ r ≤ 0x10FFFF) := by simpa [Lib.validRune] using h
/-- The four forms of a rune's bytes. -/
theorem enc_forms (r : Int) (h : Lib.validRune r = true) : ∃ n : Nat, r = n ∧
    ((n ≤ 127 ∧ encodeRune r = [n.toUInt8]) ∨ (128 ≤ n ∧ n ≤ 2047 ∧ encodeRune r = [(192 + n / 64).toUInt8, (128 + n % 64).toUInt8]) ∨
     (2048 ≤ n ∧ n ≤ 65535 ∧ encodeRune r = [(224 + n / 4096).toUInt8, (128 + n / 64 % 64).toUInt8, (128 + n % 64).toUInt8]) ∨
     (65536 ≤ n ∧ n ≤ 1114111 ∧ encodeRune r = [(240 + n / 262144).toUInt8, (128 + n / 4096 % 64).toUInt8, (128 + n / 64 % 64).toUInt8, (128 + n % 64).toUInt8])) := by
  have hv := rune_bd h
  obtain ⟨n, rfl⟩ : ∃ n : Nat, r = n := ⟨r.toNat, by omega⟩
  refine ⟨n, rfl, ?_⟩
  unfold encodeRune
  by_cases a : n ≤ 127
  · left; rw [encodeRuneZ_one (by omega) (by omega)]; exact ⟨a, by simp⟩
  · by_cases b : n ≤ 2047
    · right; left; rw [encodeRuneZ_two (by omega) (by omega)]
      refine ⟨by omega, b, ?_⟩
      simp only [List.map_cons, List.map_nil]
      rw [show (192 + (n : Int) / 64).toNat = 192 + n / 64 by omega, show (128 + (n : Int) % 64).toNat = 128 + n % 64 by omega]
    · by_cases c : n ≤ 65535
      · right; right; left; rw [encodeRuneZ_three (by omega)]
        refine ⟨by omega, c, ?_⟩
        simp only [List.map_cons, List.map_nil]
        rw [show (224 + (n : Int) / 4096).toNat = 224 + n / 4096 by omega, show (128 + (n : Int) / 64 % 64).toNat = 128 + n / 64 % 64 by omega, show (128 + (n : Int) % 64).toNat = 128 + n % 64 by omega]
      · right; right; right; rw [encodeRuneZ_four (by omega) (by omega)]
        refine ⟨by omega, by omega, ?_⟩
        simp only [List.map_cons, List.map_nil]
        rw [show (240 + (n : Int) / 262144).toNat = 240 + n / 262144 by omega, show (128 + (n : Int) / 4096 % 64).toNat = 128 + n / 4096 % 64 by omega, show (128 + (n : Int) / 64 % 64).toNat = 128 + n / 64 % 64 by omega, show (128 + (n : Int) % 64).toNat = 128 + n % 64 by omega]
theorem u8n (n : Nat) (h : n < 256) : n.toUInt8.toNat = n := by simp; omega

theorem head_lead (r : Int) (h : Lib.validRune r = true) : ((encodeRune r).getD 0 0).toNat / 64 ≠ 2 := by
  obtain ⟨n, rfl, ⟨h1, e⟩ | ⟨h1, h2, e⟩ | ⟨h1, h2, e⟩ | ⟨h1, h2, e⟩⟩ := enc_forms r h
  all_goals (rw [e, List.getD_cons_zero, u8n _ (by omega)]; omega)
theorem tail_cont (r : Int) (h : Lib.validRune r = true) (i : Nat) (h0 : 1 ≤ i) (hi : i < (encodeRune r).length) : ((encodeRune r).getD i 0).toNat / 64 = 2 := by
  obtain ⟨n, rfl, ⟨h1, e⟩ | ⟨h1, h2, e⟩ | ⟨h1, h2, e⟩ | ⟨h1, h2, e⟩⟩ := enc_forms r h
  all_goals (rw [e] at hi ⊢; simp only [List.length_cons, List.length_nil] at hi)
  · omega
  · obtain rfl : i = 1 := by omega
    simp only [List.getD_cons_zero, List.getD_cons_succ]; rw [u8n _ (by omega)]; omega
  · have : i = 1 ∨ i = 2 := by omega
    rcases this with rfl | rfl <;> (simp only [List.getD_cons_zero, List.getD_cons_succ]; rw [u8n _ (by omega)]; omega)
  · have : i = 1 ∨ i = 2 ∨ i = 3 := by omega
    rcases this with rfl | rfl | rfl <;> (simp only [List.getD_cons_zero, List.getD_cons_succ]; rw [u8n _ (by omega)]; omega)

/-- What begins with a rune is its bytes, and some more. -/
theorem good_form (l : List UInt8) (hne : l ≠ []) (hb : badB l = false) : ∃ r t, Lib.validRune r = true ∧ l = encodeRune r ++ t := by
  refine ⟨(decodeL l).1, l.drop (decodeL l).2, decodeL_rune l, ?_⟩
  rw [encode_decode l hne (by unfold badB at hb; simpa using hb), List.take_append_drop]
theorem not_bad_enc (r : Int) (t : List UInt8) (h : Lib.validRune r = true) : badB (encodeRune r ++ t) = false := by
  unfold badB; rw [decode_encode r t h]
  simp only [decide_eq_false_iff_not]
  rintro ⟨a, b⟩
  have h0 := valid_nonneg h
  exact encodeRune_len_valid r h b (by omega)
theorem valid_head (b : List UInt8) (hne : b ≠ []) (hv : validD b = true) : (b.getD 0 0).toNat / 64 ≠ 2 := by
  have hb : badB b = false := by
    cases h : badB b with
    | false => rfl
    | true => rw [valid_step b hne, h] at hv; simp at hv
  obtain ⟨r, t, hr, rfl⟩ := good_form b hne hb
  have h1 := head_lead r hr
  have h2 := encodeRune_len r
  rw [List.getD_eq_getElem?_getD, List.getElem?_append_left (by omega), ← List.getD_eq_getElem?_getD]
  exact h1
/-- Bytes that are no text, with a text behind them, are none. -/
theorem join_bad (a b : List UInt8) (ha : validD a = false) (hb : validD b = true) : validD (a ++ b) = false := by
  revert ha
  refine byRunes (C := fun a => validD a = false → validD (a ++ b) = false) ?_ ?_ ?_ a
  · intro h; rw [validD_nil] at h; cases h
  · intro a hne hbad _
    have hne2 : a ++ b ≠ [] := by simp [hne]
    rw [valid_step _ hne2]
    cases h : badB (a ++ b) with
    | true => rfl
    | false =>
      exfalso
      obtain ⟨r, t, hr, e⟩ := good_form _ hne2 h
      have hl := encodeRune_len r
      by_cases hk : (encodeRune r).length ≤ a.length
      · have : a = encodeRune r ++ a.drop (encodeRune r).length := by
          have h1 := congrArg (List.take (encodeRune r).length) e
          rw [List.take_append_of_le_length hk, List.take_left] at h1
          have h2 := List.take_append_drop (encodeRune r).length a
          rw [h1] at h2; exact h2.symm
        rw [this, not_bad_enc r _ hr] at hbad
        cases hbad
      · have hal : 0 < a.length := List.length_pos_iff.2 hne
        have hbne : b ≠ [] := by
          rintro rfl
          have := congrArg List.length e
          simp at this; omega
        have h1 := tail_cont r hr a.length hal (by omega)
        have h2 := valid_head b hbne hb
        have h3 : (a ++ b).getD a.length 0 = b.getD 0 0 := by
          rw [List.getD_eq_getElem?_getD, List.getElem?_append_right (Nat.le_refl _), Nat.sub_self, ← List.getD_eq_getElem?_getD]
        have h4 : (a ++ b).getD a.length 0 = (encodeRune r).getD a.length 0 := by
          rw [e, List.getD_eq_getElem?_getD, List.getElem?_append_left (by omega), ← List.getD_eq_getElem?_getD]
        rw [← h4, h3] at h1
        exact h2 h1
  · intro a hne hgood ih hv
    obtain ⟨r, t, hr, rfl⟩ := good_form a hne hgood
    rw [decode_encode r t hr] at ih
    simp only [List.drop_left] at ih
    rw [List.append_assoc, (items_enc r (t ++ b) hr).2]
    rw [(items_enc r t hr).2] at hv
    exact ih hv

theorem cmpB_same (p s t : List UInt8) : compareBytes (p ++ s) (p ++ t) = compareBytes s t := by
  induction p with
  | nil => rfl
  | cons a p ih => simp [compareBytes, ih]
theorem cmpB_lt (a b : UInt8) (s t : List UInt8) (h : a < b) : compareBytes (a :: s) (b :: t) = -1 := by simp [compareBytes, h]
theorem cmpB_eq (a b : UInt8) (s t : List UInt8) (h : a = b) : compareBytes (a :: s) (b :: t) = compareBytes s t := by subst h; simp [compareBytes]
theorem u8lt (m n : Nat) (h : m < n) (hn : n < 256) : m.toUInt8 < n.toUInt8 := by
  rw [UInt8.lt_iff_toNat_lt, u8n m (by omega), u8n n hn]; exact h
theorem enc_lt (r q : Int) (hr : Lib.validRune r = true) (hq : Lib.validRune q = true) (h : r < q) (s t : List UInt8) : compareBytes (encodeRune r ++ s) (encodeRune q ++ t) = -1 := by
  obtain ⟨n, rfl, ⟨a1, e⟩ | ⟨a1, a2, e⟩ | ⟨a1, a2, e⟩ | ⟨a1, a2, e⟩⟩ := enc_forms r hr
  all_goals (obtain ⟨m, rfl, ⟨b1, e'⟩ | ⟨b1, b2, e'⟩ | ⟨b1, b2, e'⟩ | ⟨b1, b2, e'⟩⟩ := enc_forms q hq)
  all_goals (rw [e, e']; simp only [List.cons_append, List.nil_append])
  all_goals first
    | (exact cmpB_lt _ _ _ _ (u8lt _ _ (by omega) (by omega)))
    | (exfalso; omega)
    | skip
  · by_cases h1 : n / 64 < m / 64
    · exact cmpB_lt _ _ _ _ (u8lt _ _ (by omega) (by omega))
    · rw [cmpB_eq _ _ _ _ (by rw [show n / 64 = m / 64 by omega])]
      exact cmpB_lt _ _ _ _ (u8lt _ _ (by omega) (by omega))
  · by_cases h1 : n / 4096 < m / 4096
    · exact cmpB_lt _ _ _ _ (u8lt _ _ (by omega) (by omega))
    · rw [cmpB_eq _ _ _ _ (by rw [show n / 4096 = m / 4096 by omega])]
      by_cases h2 : n / 64 % 64 < m / 64 % 64
      · exact cmpB_lt _ _ _ _ (u8lt _ _ (by omega) (by omega))
      · rw [cmpB_eq _ _ _ _ (by rw [show n / 64 % 64 = m / 64 % 64 by omega])]
        exact cmpB_lt _ _ _ _ (u8lt _ _ (by omega) (by omega))
  · by_cases h1 : n / 262144 < m / 262144
    · exact cmpB_lt _ _ _ _ (u8lt _ _ (by omega) (by omega))
    · rw [cmpB_eq _ _ _ _ (by rw [show n / 262144 = m / 262144 by omega])]
      by_cases h2 : n / 4096 % 64 < m / 4096 % 64
      · exact cmpB_lt _ _ _ _ (u8lt _ _ (by omega) (by omega))
      · rw [cmpB_eq _ _ _ _ (by rw [show n / 4096 % 64 = m / 4096 % 64 by omega])]
        by_cases h3 : n / 64 % 64 < m / 64 % 64
        · exact cmpB_lt _ _ _ _ (u8lt _ _ (by omega) (by omega))
        · rw [cmpB_eq _ _ _ _ (by rw [show n / 64 % 64 = m / 64 % 64 by omega])]
          exact cmpB_lt _ _ _ _ (u8lt _ _ (by omega) (by omega))
theorem cmpB_flip (a b : List UInt8) : compareBytes a b = - compareBytes b a := by
  induction a generalizing b with
  | nil => cases b <;> simp [compareBytes]
  | cons x a ih =>
    cases b with
    | nil => simp [compareBytes]
    | cons y b =>
      simp only [compareBytes]
      by_cases h1 : x < y
      · have h2 : ¬ y < x := by rw [UInt8.lt_iff_toNat_lt] at *; omega
        simp [h1, h2]
      · by_cases h2 : y < x
        · simp [h1, h2]
        · simp [h1, h2, ih b]
theorem cmpL_flip (a b : List Int) : cmpL a b = - cmpL b a := by
  induction a generalizing b with
  | nil => cases b <;> simp [cmpL]
  | cons x a ih =>
    cases b with
    | nil => simp [cmpL]
    | cons y b =>
      simp only [cmpL]
      by_cases h1 : x < y
      · have h2 : ¬ y < x := by omega
        simp [h1, h2]
      · by_cases h2 : y < x
        · simp [h1, h2]
        · simp [h1, h2, ih b]
/-- Texts compare as their bytes do. -/
theorem cmp_enc (x y : List Int) (hx : ∀ r ∈ x, Lib.validRune r = true) (hy : ∀ r ∈ y, Lib.validRune r = true) : compareBytes (encL x) (encL y) = cmpL x y := by
  induction x generalizing y with
  | nil =>
    cases y with
    | nil => rfl
    | cons q y =>
      rw [encL_cons]
      have := encodeRune_len q
      cases h : encodeRune q with
      | nil => rw [h] at this; simp at this
      | cons _ _ => rfl
  | cons r x ih =>
    cases y with
    | nil =>
      rw [encL_cons]
      have := encodeRune_len r
      cases h : encodeRune r with
      | nil => rw [h] at this; simp at this
      | cons _ _ => rfl
    | cons q y =>
      rw [encL_cons, encL_cons]
      simp only [cmpL]
      have vr := hx r (by simp)
      have vq := hy q (by simp)
      by_cases h1 : r < q
      · rw [if_pos h1]; exact enc_lt r q vr vq h1 _ _
      · rw [if_neg h1]
        by_cases h2 : q < r
        · rw [if_pos h2, cmpB_flip, enc_lt q r vq vr h2]; rfl
        · rw [if_neg h2]
          obtain rfl : r = q := by omega
          rw [cmpB_same]
          exact ih y (fun z hz => hx z (by simp [hz])) (fun z hz => hy z (by simp [hz]))
theorem cmp_take (x : List Int) (k : Nat) (h : k ≤ x.length) : cmpL (x.take k) x = if k = x.length then 0 else -1 := by
  induction x generalizing k with
  | nil => simp at h; subst h; rfl
  | cons a x ih =>
    cases k with
    | zero => simp [cmpL]
    | succ k =>
      simp only [List.take_succ_cons, cmpL]
      simp only [List.length_cons] at h
      rw [if_neg (by omega), if_neg (by omega), ih k (by omega)]
      simp
end Go.Proofs.YtljaibhhkjapmaaDoor

/- The law RunesJoin, walked: two texts one behind the other have the runes of both. -/
namespace Go.Proofs.YtljaibhhkjapmaaDoor
open Go.RowKit Go.Shelf

def RetTrue (w : World) (e : Ending) (w' : World) : Prop := e = .returned (.bool true) ∧ Below w.heap.size w w'

theorem addr_add (b o j : Nat) : (⟨b, o, none⟩ : Addr).add j = ⟨b, o + j, none⟩ := by
  unfold Addr.add
  by_cases h : j = 0
  · subst h; rfl
  · simp [h]
/-- An append whose run is known, guarded or not. -/
theorem wpList_append_run {P : Program} {w : World} {ops : Array Oper} {rest : List Oper} {o : Oper} {a : Act} {Q : Exit → Act → World → Prop} (s x : Operand) (t : TypeId) (v u v' : Value) (w' : World)
    (hrun : (Builtin.append_ #[t, t] o.type #[v, u]).run P w = .ok v' w') (hw : Region.wanted o (yielded ops a.tmps) = true)
    (ho : o.op = .call { callee := .builtin .append, args := #[s, x], argTypes := #[t, t] }) (hs : a.eval s = v) (hx : a.eval x = u)
    (h : wpList P ops Q rest (a.put o.dst v') w') : wpList P ops Q (o :: rest) a w := by
  refine wpList_step fun K hK => ?_
  rw [if_pos hw]
  unfold Oper.wp execOp
  simp only [ho, resolve, invoke, builtin, Sem.run_bind, Sem.run_pure, Result.andThen_ok, List.map_toArray, List.map_cons, List.map_nil, hs, hx, hrun]
  exact hK _ _ h
/-- append(v, u...) of a row of the call's own and a list of runes. -/
theorem append_runs (w : World) (base : Nat) (v : Value) (n : Nat) (xs : List Value) (hown : w.ownsRow base 21 1 v n xs) (u : Value) (ys : List Int) (hu : Runs w u ys) (hbase : base ≤ w.heap.size) (hlen : (n + ys.length) * 4 ≤ 140737488355328) :
    ∃ v' w', (Builtin.append_ #[84, 84] 84 #[v, u]).run Tryd.prog w = .ok v' w' ∧ w'.ownsRow base 21 1 v' (n + ys.length) (xs ++ ys.map (Value.int .i32)) ∧ w.grownBy w' v.ownBlock ∧ (v'.ownBlock = v.ownBlock ∨ v'.ownBlock = some w.heap.size) := by
  obtain ⟨i0, hi, hz0, hz1, hz2⟩ := info_parts info32
  obtain ⟨A, c, rfl, hxc, ⟨hxm, hc0⟩, hxx⟩ := hu
  cases A with
  | none =>
    obtain rfl := hc0 rfl
    have h0 : ys = [] := List.eq_nil_of_length_eq_zero (by omega)
    subst h0
    exact ⟨v, w, run_append_owned_none (P := Tryd.prog) (w := w) base 84 84 21 i0 1 Tryd.underlying84 hi v n xs hown, by simpa using hown, World.grownBy.refl w _, .inl rfl⟩
  | some ad =>
    have hcells : ∀ j u, (ys.map (Value.int .i32))[j]? = some u → w.cell? (ad.add j) = some u := by
      intro j u hj
      rw [List.getElem?_map] at hj
      obtain ⟨z, hz, rfl⟩ := Option.map_eq_some_iff.1 hj
      obtain ⟨hjl, hjz⟩ := List.getElem?_eq_some_iff.1 hz
      obtain ⟨b, o, e, _, hc⟩ := hxx (by omega)
      have e := Option.some.inj e
      subst e
      rw [addr_add, hc j hjl, List.getD_eq_getElem?_getD, hz]
      rfl
    obtain ⟨v', w', hrun, h2, h3, _, h5⟩ := run_append_own_at (P := Tryd.prog) w base 84 84 21 i0 _ 1 4 Tryd.underlying84 hi hz0 hz1 hz2 rfl (by decide) v n xs hown ad ys.length c (ys.map (Value.int .i32)) (by simp) hcells (fun u hu => by obtain ⟨z, _, rfl⟩ := List.mem_map.1 hu; rfl) (by unfold maxLen; omega) hlen hbase
    exact ⟨v', w', hrun, h2, h3, h5⟩
theorem own_lit (w : World) : (w.alloc (.cells #[] 21)).ownsRow w.heap.size 21 1 (.slice (some ⟨w.heap.size, 0, none⟩) 0 0) 0 [] :=
  ⟨by simp, .inr ⟨w.heap.size, 0, #[], rfl, Nat.le_refl _, heap_alloc_new w _, Nat.le_refl _, by simp [maxLen], by simp, by simp⟩⟩
/-- Decode answers the runes xs and the error er at the text s. -/
def DecAt (s : ByteArray) (xs : List Int) (er : Int) : Prop := ∀ w, Okw w → Calls Tryd.prog 82 #[.string s] w fun e w' => ∃ A c, e = .returned (.tuple #[.slice A xs.length c, .int .i64 er]) ∧ Runs w' (.slice A xs.length c) xs ∧ Below w.heap.size w w'
theorem decAt (s : ByteArray) (hs : s.size * 4 ≤ 140737488355328) : DecAt s (decRunes s.data.toList) (decErr s.data.toList) := fun w h => decode_runs s w hs h.1 h.2
theorem decAt_yes (s : ByteArray) (hs : s.size * 4 ≤ 140737488355328) (hv : Lib.validD s.data.toList = true) : DecAt s (items s.data.toList) 0 := by
  have := decAt s hs; simpa [decRunes, decErr, hv] using this
theorem decAt_no (s : ByteArray) (hs : s.size * 4 ≤ 140737488355328) (hv : Lib.validD s.data.toList = false) : DecAt s [] 3 := by
  have := decAt s hs; simpa [decRunes, decErr, hv] using this
theorem app_toList (a b : ByteArray) : (a ++ b).data.toList = a.data.toList ++ b.data.toList := by simp
theorem app_size (a b : ByteArray) : (a ++ b).size = a.size + b.size := by simp

end Go.Proofs.YtljaibhhkjapmaaDoor

/- The document's answers for one number: IsRune, Letter, a rune's bytes. -/
namespace Go.Proofs.YtljaibhhkjapmaaDoor
open Go.RowKit Go.Shelf

theorem rune_cases (r : Int) : r < 0 ∨ (0 ≤ r ∧ r ≤ 55295) ∨ (55296 ≤ r ∧ r ≤ 57343) ∨ (57344 ≤ r ∧ r ≤ 1114111) ∨ 1114112 ≤ r := by omega
theorem vr_no (r : Int) (h : r < 0 ∨ (55296 ≤ r ∧ r ≤ 57343) ∨ 1114112 ≤ r) : Lib.validRune r = false := by
  unfold Lib.validRune; simp only [decide_eq_false_iff_not]; omega
theorem vr_yes (r : Int) (h : (0 ≤ r ∧ r ≤ 55295) ∨ (57344 ≤ r ∧ r ≤ 1114111)) : Lib.validRune r = true := by
  unfold Lib.validRune; simp only [decide_eq_true_eq]; omega

set_option maxRecDepth 100000 in
set_option maxHeartbeats 1000000 in
theorem isRune_any (r : Int) (w : World) : Calls Tryd.prog 104 #[.int .i32 r] w fun e w' => e = .returned (.bool (Lib.validRune r)) ∧ w = w' := by
  rcases rune_cases r with h | ⟨h1, h2⟩ | ⟨h1, h2⟩ | ⟨h1, h2⟩ | h
  · have d1 : decide (0 ≤ r) = false := by simp; omega
    go_enter Tryd.func104, Tryd.ntmps104
    go_wp2
    go_ret
    exact ⟨ret_bool (by rw [vr_no _ (by omega)]), rfl⟩
  · have d2 : decide (55296 ≤ r) = false := by simp; omega
    go_enter Tryd.func104, Tryd.ntmps104
    go_wp2
    go_ret
    exact ⟨ret_bool (by rw [vr_yes _ (by omega)]), rfl⟩
  · have h0 : 0 ≤ r := by omega
    have h3 : r ≤ 1114111 := by omega
    go_enter Tryd.func104, Tryd.ntmps104
    go_wp2
    go_ret
    exact ⟨ret_bool (by rw [vr_no _ (by omega)]), rfl⟩
  · have h0 : 0 ≤ r := by omega
    have h3 : 55296 ≤ r := by omega
    have d2 : decide (r ≤ 57343) = false := by simp; omega
    go_enter Tryd.func104, Tryd.ntmps104
    go_wp2
    go_ret
    exact ⟨ret_bool (by rw [vr_yes _ (by omega)]), rfl⟩
  · have h0 : 0 ≤ r := by omega
    have d1 : decide (r ≤ 1114111) = false := by simp; omega
    go_enter Tryd.func104, Tryd.ntmps104
    go_wp2
    go_ret
    exact ⟨ret_bool (by rw [vr_no _ (by omega)]), rfl⟩

theorem cells_enc (r : Int) : (Lib.byteCells (Lib.encodeRune r)) = Lib.runeCells r := Lib.byteCells_encodeRune r

set_option maxRecDepth 100000 in
set_option maxHeartbeats 1000000 in
theorem bytes_any (r : Int) (w : World) (h : Lib.validRune r = true) :
    Calls Tryd.prog 105 #[.int .i32 r] w fun e w' => e = .returned (.slice (some ⟨w.heap.size, 0, none⟩) (Lib.encodeRune r).length (Lib.encodeRune r).length) ∧ w' = w.alloc (.cells (Lib.byteCells (Lib.encodeRune r)).toArray 5) := by
  have hv := rune_bd h
  rw [cells_enc]
  unfold Lib.runeCells Lib.encodeRune
  by_cases a : r ≤ 127
  · have a0 : 0 ≤ r := by omega
    rw [Lib.encodeRuneZ_one (by omega) (by omega)]
    go_enter Tryd.func105, Tryd.ntmps105
    go_wp2
    go_ret
    exact ⟨rfl, rfl⟩
  · by_cases b : r ≤ 2047
    · have a0 : 128 ≤ r := by omega
      rw [Lib.encodeRuneZ_two (by omega) (by omega)]
      go_enter Tryd.func105, Tryd.ntmps105
      go_wp2
      go_ret
      exact ⟨rfl, rfl⟩
    · by_cases c : r ≤ 65535
      · have a0 : 2048 ≤ r := by omega
        rw [Lib.encodeRuneZ_three (by omega)]
        go_enter Tryd.func105, Tryd.ntmps105
        go_wp2
        go_ret
        exact ⟨rfl, rfl⟩
      · have a0 : 65536 ≤ r := by omega
        have a1 : r ≤ 1114111 := by omega
        rw [Lib.encodeRuneZ_four (by omega) (by omega)]
        go_enter Tryd.func105, Tryd.ntmps105
        go_wp2
        go_ret
        exact ⟨rfl, rfl⟩

theorem letter_cases2 (r : Int) : r < 65 ∨ (65 ≤ r ∧ r ≤ 90) ∨ (91 ≤ r ∧ r ≤ 96) ∨ (97 ≤ r ∧ r ≤ 122) ∨ (123 ≤ r ∧ r ≤ 191) ∨ (215 ≤ r ∧ r ≤ 215) ∨ (247 ≤ r ∧ r ≤ 247) ∨ (8192 ≤ r ∧ r ≤ 8303) ∨ (192 ≤ r ∧ r ≤ 214) ∨ (216 ≤ r ∧ r ≤ 246) ∨ (248 ≤ r ∧ r ≤ 8191) ∨ 8304 ≤ r := by omega
end Go.Proofs.YtljaibhhkjapmaaDoor

/- errataref01.first: the rune that some bytes begin with, as the decoder tells it. -/
namespace Go.Proofs.YtljaibhhkjapmaaDoor
open Go.RowKit Go.Shelf Go.Lib

/-- What the document reckons of the first n bytes. -/
def partR (l : List UInt8) (n : Nat) : Nat → Int
  | 0 => ((l.getD 0 0).toNat : Int) - (if n = 2 then 192 else if n = 3 then 224 else if n = 4 then 240 else 0)
  | k + 1 => partR l n k * 64 + ((l.getD (k + 1) 0).toNat : Int) - 128
def candR (l : List UInt8) (n : Nat) : Int := partR l n (n - 1)
def testR (l : List UInt8) (n : Nat) : Bool := Lib.validRune (candR l n) && decide (encodeRune (candR l n) = l.take n)

theorem byte_lt (b : UInt8) : b.toNat < 256 := b.toNat_lt
theorem cand1 (l : List UInt8) : candR l 1 = ((l.getD 0 0).toNat : Int) := by simp [candR, partR]
theorem cand2 (l : List UInt8) : candR l 2 = (((l.getD 0 0).toNat : Int) - 192) * 64 + ((l.getD 1 0).toNat : Int) - 128 := by simp [candR, partR]
theorem cand3 (l : List UInt8) : candR l 3 = ((((l.getD 0 0).toNat : Int) - 224) * 64 + ((l.getD 1 0).toNat : Int) - 128) * 64 + ((l.getD 2 0).toNat : Int) - 128 := by simp [candR, partR]
theorem cand4 (l : List UInt8) : candR l 4 = (((((l.getD 0 0).toNat : Int) - 240) * 64 + ((l.getD 1 0).toNat : Int) - 128) * 64 + ((l.getD 2 0).toNat : Int) - 128) * 64 + ((l.getD 3 0).toNat : Int) - 128 := by simp [candR, partR]

/-- A test that stands tells the rune. -/
theorem test_decode (l : List UInt8) (n : Nat) (hn : n ≤ l.length) (h : testR l n = true) : badB l = false ∧ decodeL l = ((candR l n).toNat, n) ∧ 0 ≤ candR l n := by
  unfold testR at h
  rw [Bool.and_eq_true, decide_eq_true_eq] at h
  obtain ⟨hv, he⟩ := h
  have hl : l = encodeRune (candR l n) ++ l.drop n := by rw [he, List.take_append_drop]
  have hlen : (encodeRune (candR l n)).length = n := by rw [he, List.length_take]; omega
  have hd := decode_encode (candR l n) (l.drop n) hv
  have hb := not_bad_enc (candR l n) (l.drop n) hv
  rw [← hl] at hd hb
  rw [hlen] at hd
  exact ⟨hb, hd, valid_nonneg hv⟩
/-- The rune that the bytes begin with stands its test. -/
theorem decode_test (l : List UInt8) (hne : l ≠ []) (hb : badB l = false) : testR l (decodeL l).2 = true ∧ candR l (decodeL l).2 = ((decodeL l).1 : Int) ∧ 1 ≤ (decodeL l).2 ∧ (decodeL l).2 ≤ 4 ∧ (decodeL l).2 ≤ l.length := by
  obtain ⟨r, t, hr, rfl⟩ := good_form l hne hb
  rw [decode_encode r t hr]
  have hlen := encodeRune_len r
  have h0 := valid_nonneg hr
  have hc : candR (encodeRune r ++ t) (encodeRune r).length = r := by
    obtain ⟨n, rfl, ⟨h1, e⟩ | ⟨h1, h2, e⟩ | ⟨h1, h2, e⟩ | ⟨h1, h2, e⟩⟩ := enc_forms r hr
    · rw [e]; simp only [List.length_cons, List.length_nil, Nat.reduceAdd]; rw [cand1]
      simp only [List.cons_append, List.getD_cons_zero]; rw [u8n _ (by omega)]
    · rw [e]; simp only [List.length_cons, List.length_nil, Nat.reduceAdd]; rw [cand2]
      simp only [List.cons_append, List.getD_cons_zero, List.getD_cons_succ]; rw [u8n _ (by omega), u8n _ (by omega)]; omega
    · rw [e]; simp only [List.length_cons, List.length_nil, Nat.reduceAdd]; rw [cand3]
      simp only [List.cons_append, List.getD_cons_zero, List.getD_cons_succ]; rw [u8n _ (by omega), u8n _ (by omega), u8n _ (by omega)]; omega
    · rw [e]; simp only [List.length_cons, List.length_nil, Nat.reduceAdd]; rw [cand4]
      simp only [List.cons_append, List.getD_cons_zero, List.getD_cons_succ]; rw [u8n _ (by omega), u8n _ (by omega), u8n _ (by omega), u8n _ (by omega)]; omega
  refine ⟨?_, ?_, hlen.1, hlen.2, by simp⟩
  · unfold testR; rw [hc, hr]; simp
  · simp only; rw [hc]; omega

/-- The answer: the rune and how many bytes it has; nothing of bytes that begin with none. -/
def firstR (l : List UInt8) : Int := if badB l then 0 else (decodeL l).1
def firstN (l : List UInt8) : Nat := if badB l then 0 else (decodeL l).2

theorem first_none (l : List UInt8) (hne : 0 < l.length) (h : ∀ j, 1 ≤ j → j ≤ 4 → j ≤ l.length → testR l j = false) : firstR l = 0 ∧ firstN l = 0 := by
  have hb : badB l = true := by
    cases hb : badB l with
    | true => rfl
    | false =>
      obtain ⟨h1, _, h2, h3, h4⟩ := decode_test l (List.length_pos_iff.1 hne) hb
      rw [h _ h2 h3 h4] at h1; cases h1
  simp [firstR, firstN, hb]
theorem part_bd (l : List UInt8) (n k : Nat) (hk : k ≤ 2) : -1000000 ≤ partR l n k ∧ partR l n k ≤ 1060000 := by
  have b0 := byte_lt (l.getD 0 0)
  have b1 := byte_lt (l.getD 1 0)
  have b2 := byte_lt (l.getD 2 0)
  have h0 : -240 ≤ partR l n 0 ∧ partR l n 0 ≤ 255 := by simp only [partR]; split <;> (try split) <;> (try split) <;> omega
  have : k = 0 ∨ k = 1 ∨ k = 2 := by omega
  rcases this with rfl | rfl | rfl
  · omega
  · simp only [partR, Nat.zero_add] at h0 ⊢; omega
  · simp only [partR, Nat.zero_add, Nat.reduceAdd] at h0 ⊢; omega
theorem byte_at (s : ByteArray) (k : Nat) (h : k < s.size) : s[k] = s.data.toList.getD k 0 := by
  rw [List.getD_eq_getElem?_getD, List.getElem?_eq_getElem (by rw [← Lib.size_eq]; exact h)]
  rfl

theorem test_next {l : List UInt8} {n : Nat} (h : ∀ j, 1 ≤ j → j < n → testR l j = false) (hn : testR l n = false) : ∀ j, 1 ≤ j → j < n + 1 → testR l j = false := by
  intro j h1 h2
  by_cases e : j = n
  · rw [e]; exact hn
  · exact h j h1 (by omega)
/-- A rune's bytes, and these as a string, each under one name. -/
theorem bytes_conv (r : Int) (h : Lib.validRune r = true) : ∃ (E : ByteArray) (O : Obj) (k : Nat),
    (∀ w : World, Calls Tryd.prog 105 #[.int .i32 r] w fun e w' => e = .returned (.slice (some ⟨w.heap.size, 0, none⟩) k k) ∧ w' = w.alloc O) ∧
    (∀ w : World, (convert 125 9 (.slice (some ⟨w.heap.size, 0, none⟩) k k)).run Tryd.prog (w.alloc O) = .ok (.string E) (w.alloc O) ∧
      (convert 125 9 (.slice (some ⟨w.heap.size, 0, none⟩) k k)).run Tryd.prog (w.alloc O).drew = .ok (.string E) (w.alloc O).drew) ∧
    Hid (E.data.toList = encodeRune r) := by
  refine ⟨⟨(encodeRune r).toArray⟩, _, _, fun w => bytes_any r w h, fun w => ?_, Lib.hid (by simp)⟩
  have hc : ∀ (w' : World), (∀ a, w'.cell? a = (w.alloc (.cells (byteCells (encodeRune r)).toArray 5)).cell? a) → ∀ j (hj : j < (encodeRune r).length), w'.cell? ((⟨w.heap.size, 0, none⟩ : Addr).add j) = some (.int .u8 ((encodeRune r)[j].toNat : Int)) := by
    intro w' hw j hj
    have e : ((⟨w.heap.size, 0, none⟩ : Addr).add j) = ⟨w.heap.size, 0 + j, none⟩ := by
      unfold Addr.add
      by_cases h : j = 0
      · subst h; rfl
      · simp [h]
    rw [hw, e, cell_of_row _ _ _ _ _ _ (heap_alloc_new w _)]
    simp [byteCells, hj]
  exact ⟨run_convert_bytes_back (P := Tryd.prog) _ 125 9 5 _ _ _ Tryd.underlying125 Tryd.underlying5 Tryd.underlying9 (hc _ (fun _ => rfl)),
    run_convert_bytes_back (P := Tryd.prog) _ 125 9 5 _ _ _ Tryd.underlying125 Tryd.underlying5 Tryd.underlying9 (hc _ (fun _ => rfl))⟩

set_option maxRecDepth 100000 in
set_option maxHeartbeats 4000000 in
theorem first_any (s : ByteArray) (w : World) (hs : s.size ≤ maxLen) (hpos : 0 < s.size) :
    Calls Tryd.prog 75 #[.string s] w fun e w' => e = .returned (.tuple #[.int .i32 (firstR s.data.toList), .int .i64 (firstN s.data.toList)]) ∧ Below w.heap.size w w' := by
  unfold maxLen at hs
  obtain ⟨R, hR⟩ : ∃ R, firstR s.data.toList = R := ⟨_, rfl⟩
  obtain ⟨K, hK⟩ : ∃ K, firstN s.data.toList = K := ⟨_, rfl⟩
  rw [hR, hK]
  have HR := Lib.hid hR; clear hR
  have HK := Lib.hid hK; clear hK
  go_enter Tryd.func75, Tryd.ntmps75
  go_wp2
  go_loopw [4] (fun s4 wr => ∃ n : Nat, s4 = .int .i64 n ∧ 1 ≤ n ∧ n ≤ 5 ∧ n ≤ s.size + 1 ∧ Below w.heap.size w wr ∧ Hid (∀ j, 1 ≤ j → j < n → testR s.data.toList j = false)) (fun s4 _ => 5 - (RowKit.intOf s4).toNat)
  case atStart => exact ⟨1, rfl, by omega, by omega, by omega, Below.refl _ _, Lib.hid (fun j h1 h2 => by omega)⟩
  case round =>
    obtain ⟨n, rfl, hn1, hn5, hns, hB, HT⟩ := hrel
    obtain ⟨W1, rfl⟩ : ∃ W1, W1 = wr := ⟨wr, rfl⟩
    by_cases h4 : n ≤ 4
    · by_cases hsz : n ≤ s.size
      · have hx0 := byte_at s 0 (by omega)
        obtain ⟨x0, hx⟩ : ∃ x0, s.data.toList.getD 0 0 = x0 := ⟨_, rfl⟩
        rw [hx] at hx0
        have HX := Lib.hid hx; clear hx
        have hb0 := byte_lt x0
        have i0 : (0 : Int) < (s.size : Int) := by omega
        have h0p : partR s.data.toList n 0 = (x0.toNat : Int) - (if n = 2 then 192 else if n = 3 then 224 else if n = 4 then 240 else 0) := by simp only [partR, HX.out]
        have : n = 1 ∨ n = 2 ∨ n = 3 ∨ n = 4 := by omega
        have q1 : decide ((n : Int) ≤ 4) = true := by simp; omega
        have q2 : decide ((n : Int) ≤ (s.size : Int)) = true := by simp; omega
        have hcan : candR s.data.toList n = partR s.data.toList n (n - 1) := rfl
        rcases this with e | e | e | e
        all_goals
          simp only [e, Nat.reduceEqDiff, if_true, if_false] at h0p
        all_goals rw [← e] at h0p
        all_goals
          have H0 := Lib.hid h0p
          clear h0p
          (try have t2 : ((n : Int) == 2) = true := by simp; omega)
          (try have f2 : ((n : Int) == 2) = false := by simp; omega)
          (try have t3 : ((n : Int) == 3) = true := by simp; omega)
          (try have f3 : ((n : Int) == 3) = false := by simp; omega)
          (try have t4 : ((n : Int) == 4) = true := by simp; omega)
          (try have f4 : ((n : Int) == 4) = false := by simp; omega)
          have HE := Lib.hid e
          clear e
          go_wp2
        all_goals
          go_loopw [5, 6] (fun s5 s6 wr2 => ∃ (i : Nat) (p : Int), s6 = .int .i64 i ∧ s5 = .int .i32 p ∧ 1 ≤ i ∧ i ≤ n ∧ W1 = wr2 ∧ Hid (partR s.data.toList n (i - 1) = p)) (fun _ s6 _ => n - (RowKit.intOf s6).toNat)
          case atStart => exact ⟨1, _, rfl, rfl, by omega, by omega, rfl, Lib.hid (by rw [H0.out]; try omega)⟩
          case round =>
            obtain ⟨i, p, rfl, rfl, hi1, hi2, rfl, HP⟩ := hrel
            by_cases hlt : i < n
            · have hbp := part_bd s.data.toList n (i - 1) (by omega)
              rw [HP.out] at hbp
              have hxi := byte_at s i (by omega)
              obtain ⟨xi, hx⟩ : ∃ xi, s.data.toList.getD i 0 = xi := ⟨_, rfl⟩
              rw [hx] at hxi
              have hbi := byte_lt xi
              have hnext : partR s.data.toList n (i - 1 + 1) = p * 64 + (xi.toNat : Int) - 128 := by simp only [partR]; rw [HP.out, show i - 1 + 1 = i by omega, hx]
              rw [show i - 1 + 1 = i + 1 - 1 by omega] at hnext
              have HN := Lib.hid hnext
              clear hx hnext
              have j1 : (i : Int) < (s.size : Int) := by omega
              obtain ⟨p1, p2⟩ := hbp
              go_wp2
              go_roundw
              case rel => exact ⟨i + 1, _, by go_num, rfl, by omega, by omega, by first | rfl | trivial, Lib.hid (by rw [HN.out])⟩
              case measure => simp [RowKit.intOf]; omega
            · obtain rfl : n = i := by omega
              go_wp2
              clear hx0 hb0 H0 i0
              (try clear t2); (try clear f2); (try clear t3); (try clear f3); (try clear t4); (try clear f4)
              cases hv : Lib.validRune p
              · have c1 := isRune_any p
                rw [hv] at c1
                have C1 := Lib.hid c1
                have HV := Lib.hid hv
                clear c1 hv
                go_quiet ((go_at_call 104; exact Calls.quiet_of_same ((C1.out _).mono fun e w' h => ⟨h.1, h.2.symm⟩)))
                go_wp2
                go_roundw
                case rel => exact ⟨n + 1, by go_num, by omega, by omega, by omega, below_draws hB _, Lib.hid (test_next HT.out (by unfold testR; rw [hcan, HP.out, HV.out]; rfl))⟩
                case measure => simp [RowKit.intOf]; omega
              · have c1 := isRune_any p
                rw [hv] at c1
                have C1 := Lib.hid c1
                have HV := Lib.hid hv
                clear c1 hv
                obtain ⟨E, O, k, c2, hcv, hE⟩ := bytes_conv p HV.out
                have C2 := Lib.hid c2
                clear c2
                have hcv1 := (hcv W1).1
                have hcv2 := (hcv W1).2
                clear hcv
                go_region_with (first | (go_at_call 104; refine (C1.out _).mono ?_; rintro e w' ⟨rfl, rfl⟩) | (go_at_call 105; refine (C2.out _).mono ?_; rintro e w' ⟨rfl, rfl⟩))
                clear hcv1 hcv2 C1 C2
                have hlt : (s.extract 0 n).toList = s.data.toList.take n := by rw [Lib.toList_data, Lib.extract_data]; simp
                have HL := Lib.hid hlt
                clear hlt
                have hB2 : Below w.heap.size w (W1.alloc O).drew := (hB.alloc hB.size _).drew
                have hEt := Lib.toList_data E
                have HE2 := Lib.hid hEt
                clear hEt
                cases hq : (E.toList == (s.extract 0 n).toList)
                · have HQ := Lib.hid hq
                  go_wp2
                  go_roundw
                  case rel =>
                    refine ⟨n + 1, by go_num, by omega, by omega, by omega, hB2, Lib.hid (test_next HT.out ?_)⟩
                    have h1 := HQ.out
                    rw [HE2.out, hE.out, HL.out] at h1
                    have h2 : ¬ Lib.encodeRune p = s.data.toList.take n := by simpa using h1
                    unfold testR
                    rw [hcan, HP.out, HV.out]
                    simp [h2]
                  case measure => simp [RowKit.intOf]; omega
                · have HQ := Lib.hid hq
                  go_wp2
                  go_ret2
                  have h1 := HQ.out
                  rw [HE2.out, hE.out, HL.out] at h1
                  have h2 : Lib.encodeRune p = s.data.toList.take n := by simpa using h1
                  have ht : testR s.data.toList n = true := by
                    unfold testR
                    rw [hcan, HP.out, HV.out]
                    simp [h2]
                  obtain ⟨g1, g2, g3⟩ := test_decode s.data.toList n (by rw [← Lib.size_eq]; exact hsz) ht
                  rw [hcan, HP.out] at g2 g3
                  have r1 : R = p := by rw [← HR.out]; unfold firstR; rw [g1, g2]; simp; omega
                  have r2 : K = n := by rw [← HK.out]; unfold firstN; rw [g1, g2]; simp
                  exact ⟨by rw [r1, r2]; rfl, hB2⟩
      · have q1 : decide ((n : Int) ≤ 4) = true := by simp; omega
        have q2 : decide ((n : Int) ≤ (s.size : Int)) = false := by simp; omega
        obtain ⟨r1, r2⟩ := first_none s.data.toList (by rw [← Lib.size_eq]; exact hpos) (fun j a b c => HT.out j a (by rw [← Lib.size_eq] at c; omega))
        go_wp2
        go_ret2
        exact ⟨by rw [← HR.out, ← HK.out, r1, r2]; rfl, hB⟩
    · have q1 : decide ((n : Int) ≤ 4) = false := by simp; omega
      obtain ⟨r1, r2⟩ := first_none s.data.toList (by rw [← Lib.size_eq]; exact hpos) (fun j a b c => HT.out j a (by omega))
      go_wp2
      go_ret2
      exact ⟨by rw [← HR.out, ← HK.out, r1, r2]; rfl, hB⟩
end Go.Proofs.YtljaibhhkjapmaaDoor

/- Builder.WriteRune: the library's contract, laid here by hand: the table of numbers, and the kernel's comparison of each body. -/
namespace Go.Proofs.YtljaibhhkjapmaaDoor
open Go.Shelf Go.RowKit
def ren168 : Go.Shelf.Ren := ⟨fun | 168 => 110 | 240 => 94 | 242 => 122 | 276 => 113 | 278 => 127 | n => n,
  fun | 0 => 0 | 3 => 3 | 4 => 4 | 5 => 5 | 9 => 9 | 20 => 20 | 21 => 21 | 37 => 125 | 46 => 185 | 51 => 201 | 70 => 124 | 72 => 127 | 75 => 130 | 80 => 133 | 164 => 191 | n => n, fun | n => n⟩
theorem f168 : Tryd.prog.funcs[110]? = some (Body.n168 ren168) := Tryd.func110.trans (congrArg some (by kernel_rfl))
theorem f240 : Tryd.prog.funcs[94]? = some (Body.n240 ren168) := Tryd.func94.trans (congrArg some (by kernel_rfl))
theorem f242 : Tryd.prog.funcs[122]? = some (Body.n242 ren168) := Tryd.func122.trans (congrArg some (by kernel_rfl))
theorem f276 : Tryd.prog.funcs[113]? = some (Body.n276 ren168) := Tryd.func113.trans (congrArg some (by kernel_rfl))
theorem f278 : Tryd.prog.funcs[127]? = some (Body.n278 ren168) := Tryd.func127.trans (congrArg some (by kernel_rfl))
theorem lays168 : Go.Proofs.Lays.n168 Tryd.prog ren168 := {
  mixed := by kernel_rfl
  f168 := f168
  f240 := f240
  f242 := f242
  f276 := f276
  f278 := f278
  t0 := Tryd.underlying0
  a0 := Tryd.isAgg0
  z0 := Tryd.sizeOf0
  v0 := Tryd.zeroValue0
  t3 := Tryd.underlying3
  a3 := Tryd.isAgg3
  z3 := Tryd.sizeOf3
  v3 := Tryd.zeroValue3
  t4 := Tryd.underlying4
  a4 := Tryd.isAgg4
  z4 := Tryd.sizeOf4
  v4 := Tryd.zeroValue4
  t5 := Tryd.underlying5
  a5 := Tryd.isAgg5
  z5 := Tryd.sizeOf5
  v5 := Tryd.zeroValue5
  t9 := Tryd.underlying9
  a9 := Tryd.isAgg9
  z9 := Tryd.sizeOf9
  v9 := Tryd.zeroValue9
  t20 := Tryd.underlying20
  a20 := Tryd.isAgg20
  z20 := Tryd.sizeOf20
  v20 := Tryd.zeroValue20
  t21 := Tryd.underlying21
  a21 := Tryd.isAgg21
  z21 := Tryd.sizeOf21
  v21 := Tryd.zeroValue21
  t37 := Tryd.underlying125
  a37 := Tryd.isAgg125
  z37 := Tryd.sizeOf125
  v37 := Tryd.zeroValue125
  t46 := Tryd.underlying185
  a46 := Tryd.isAgg185
  z46 := Tryd.sizeOf185
  v46 := Tryd.zeroValue185
  t51 := Tryd.underlying201
  a51 := Tryd.isAgg201
  z51 := Tryd.sizeOf201
  v51 := Tryd.zeroValue201
  t70 := Tryd.underlying124
  a70 := Tryd.isAgg124
  z70 := Tryd.sizeOf124
  v70 := Tryd.zeroValue124
  t72 := Tryd.underlying127
  a72 := Tryd.isAgg127
  z72 := Tryd.sizeOf127
  v72 := Tryd.zeroValue127
  t75 := Tryd.underlying130
  a75 := Tryd.isAgg130
  z75 := Tryd.sizeOf130
  v75 := Tryd.zeroValue130
  t164 := Tryd.underlying191
  a164 := Tryd.isAgg191
  z164 := Tryd.sizeOf191
  v164 := Tryd.zeroValue191 }
theorem extra168 : Builder.Extra Tryd.prog ren168 := {
  sizeBuilder := by kernel_rfl
  liesBuilder := by kernel_rfl
  t5 := Tryd.underlying5
  a5 := Tryd.isAgg5
  z5 := Tryd.sizeOf5
  v5 := Tryd.zeroValue5
  infoByte := by kernel_rfl
  cellsByte := by kernel_rfl
  sizeByte := by kernel_rfl
  neB5 := by decide }
/-- WriteRune, of every rune: its bytes behind what the builder held. -/
theorem writeRune_k (B b : Nat) (bs : List Value) (r : Int) (h0 : -2147483648 ≤ r) (h1 : r ≤ 2147483647) (w : World) (h : Lib.IsBuilderF 127 5 B b bs w) (hl : bs.length + 4 ≤ 140737488355328) (hB : B ≤ w.heap.size) :
    Calls Tryd.prog 110 #[.pointer (some ⟨b, 0, none⟩), .int .i32 r] w fun e w' => e = .returned (.tuple #[.int .i64 (Lib.runeCells r).length, .nilIface]) ∧ Lib.IsBuilderF 127 5 B b (bs ++ Lib.runeCells r) w' ∧ Below B w w' :=
  (Any.Builder_WriteRune_k lays168 extra168 B b bs r h0 h1 w h hl hB).mono fun _ _ ⟨he, hb, hbl, _⟩ => ⟨he, .inr hb, hbl⟩
end Go.Proofs.YtljaibhhkjapmaaDoor

/- runes.Encode: what it answers, for every list of numbers. -/
namespace Go.Proofs.YtljaibhhkjapmaaDoor
open Go.RowKit Go.Shelf

def allRunes (l : List Int) : Bool := l.all Lib.validRune
def encErr (l : List Int) : Int := if allRunes l then 0 else 3
def encS (l : List Int) : List UInt8 := if allRunes l then encL l else []

theorem encL_take (l : List Int) (k : Nat) (h : k < l.length) : encL (l.take (k + 1)) = encL (l.take k) ++ Lib.encodeRune (l.getD k 0) := by
  rw [List.take_succ_eq_append_getElem h, encL_append]
  simp [encL, List.getD_eq_getElem?_getD, h]
theorem all_take (l : List Int) (k : Nat) (h : k < l.length) : allRunes (l.take (k + 1)) = (allRunes (l.take k) && Lib.validRune (l.getD k 0)) := by
  unfold allRunes
  rw [List.take_succ_eq_append_getElem h, List.all_append, List.getD_eq_getElem?_getD, List.getElem?_eq_getElem h]
  simp
theorem all_no (l : List Int) (k : Nat) (h : k < l.length) (hv : Lib.validRune (l.getD k 0) = false) : allRunes l = false := by
  unfold allRunes; rw [List.all_eq_false]
  exact ⟨l.getD k 0, by simp [List.getD_eq_getElem?_getD, h], fun h' => by rw [hv] at h'; cases h'⟩

set_option maxRecDepth 100000 in
set_option maxHeartbeats 2000000 in
theorem encode_any (u : Value) (l : List Int) (w : World) (hu : Runs w u l) (hlen : l.length * 4 + 4 ≤ 140737488355328) (hwf : ∀ x ∈ l, -2147483648 ≤ x ∧ x ≤ 2147483647) :
    Calls Tryd.prog 88 #[u] w fun e w' => e = .returned (.tuple #[.string ⟨(encS l).toArray⟩, .int .i64 (encErr l)]) ∧ Below w.heap.size w w' := by
  obtain ⟨A, c, rfl, hxc, ⟨hxm, _⟩, hxx⟩ := hu
  unfold maxLen at hxm
  obtain ⟨n, hn⟩ : ∃ n, l.length = n := ⟨_, rfl⟩
  rw [hn] at hxc hxx hlen ⊢
  have Hn := Lib.hid hn; clear hn
  have HX := Lib.hid hxx; clear hxx
  have HW := Lib.hid hwf; clear hwf
  have hfresh := Lib.IsBuilderF.of (Lib.fresh_isBuilder 127 5 w)
  obtain ⟨es, hes⟩ : ∃ es, encS l = es := ⟨_, rfl⟩
  obtain ⟨ee, hee⟩ : ∃ ee, encErr l = ee := ⟨_, rfl⟩
  rw [hes, hee]
  have Hes := Lib.hid hes; clear hes
  have Hee := Lib.hid hee; clear hee
  go_enter Tryd.func88, Tryd.ntmps88
  go_wp2
  go_loopw [9] (fun i wr => ∃ k : Nat, k ≤ n ∧ i = .int .i64 k ∧ Lib.IsBuilderF 127 5 w.heap.size w.heap.size (Lib.byteCells (encL (l.take k))) wr ∧ Below w.heap.size w wr ∧ Hid (allRunes (l.take k) = true)) (fun i _ => n - (intOf i).toNat)
  case atStart => exact ⟨0, Nat.zero_le _, rfl, by simpa [encL, Lib.byteCells] using hfresh, (Below.refl _ w).alloc (Nat.le_refl _) _, Lib.hid (by simp [allRunes])⟩
  case round =>
    obtain ⟨k, hk, rfl, hbd, hB, HA⟩ := hrel
    clear hfresh
    by_cases hlt : k < n
    · obtain ⟨b, o, rfl, hb, hc1⟩ := HX.out (by omega)
      have e1 := (hB.cell (p := ⟨b, o + k, none⟩) hb).trans (hc1 k hlt)
      have hr := HW.out (l.getD k 0) (by simp [List.getD_eq_getElem?_getD, Hn.out, hlt])
      have t1 := encL_take l k (by rw [Hn.out]; exact hlt)
      have t2 := all_take l k (by rw [Hn.out]; exact hlt)
      have t3 := all_no l k (by rw [Hn.out]; exact hlt)
      obtain ⟨r, hr1⟩ : ∃ r, l.getD k 0 = r := ⟨_, rfl⟩
      rw [hr1] at e1 hr t1 t2 t3
      have T1 := Lib.hid t1; have T2 := Lib.hid t2; have T3 := Lib.hid t3
      clear t1 t2 t3 hr1 hc1
      obtain ⟨r1, r2⟩ := hr
      have i1 : (k : Int) < (n : Int) := by omega
      have c1 := Tryd.utf8_ValidRune r wr
      cases hv : Lib.validRune r
      · rw [hv] at c1
        have C1 := Lib.hid c1
        have HV := Lib.hid hv
        clear c1 hv
        go_wp2_with (go_at_call 109; refine C1.out.mono ?_; rintro e w' ⟨rfl, rfl⟩)
        go_ret2
        have h0 := T3.out HV.out
        exact ⟨by rw [← Hes.out, ← Hee.out]; simp [encS, encErr, h0], hB⟩
      · rw [hv] at c1
        have C1 := Lib.hid c1
        have HV := Lib.hid hv
        clear c1 hv
        have hle : (Lib.byteCells (encL (l.take k))).length + 4 ≤ 140737488355328 := by
          rw [Lib.byteCells_length]; have := encL_le (l.take k); rw [List.length_take] at this; omega
        have C2 := Lib.hid (writeRune_k w.heap.size w.heap.size _ r r1 r2 wr hbd hle hB.size)
        clear hle
        go_wp2_with (first | (go_at_call 109; refine C1.out.mono ?_; rintro e w' ⟨rfl, rfl⟩) | (go_at_call 110; refine C2.out.mono ?_; rintro e w1 ⟨rfl, hb1, hw1⟩))
        go_roundw
        case rel => exact ⟨k + 1, by omega, by go_num, by rw [T1.out, Lib.byteCells_append, Lib.byteCells_encodeRune]; exact hb1, hB.trans hw1, Lib.hid (by rw [T2.out, HA.out, HV.out]; rfl)⟩
        case measure => simp [intOf]; omega
    · obtain rfl : n = k := by omega
      have C := Lib.hid (Tryd.Builder_String_any_f w.heap.size w.heap.size _ wr hbd hB.size)
      go_wp2_with (go_at_call 67; refine C.out.mono ?_; rintro e w1 ⟨rfl, _, hw1⟩)
      go_ret2
      have ht : l.take n = l := List.take_of_length_le (by rw [Hn.out]; exact Nat.le_refl _)
      have h0 : allRunes l = true := by have := HA.out; rwa [ht] at this
      exact ⟨by rw [← Hes.out, ← Hee.out, ht]; simp [encS, encErr, h0], hB.trans hw1⟩
end Go.Proofs.YtljaibhhkjapmaaDoor

/- The law RunesBack, walked: what is encoded is decoded, what is decoded is encoded as it was. -/
namespace Go.Proofs.YtljaibhhkjapmaaDoor
open Go.RowKit Go.Shelf

theorem mk_toList (l : List UInt8) : (ByteArray.mk l.toArray).data.toList = l := by simp
theorem mk_data (s : ByteArray) (l : List UInt8) (h : l = s.data.toList) : (⟨l.toArray⟩ : ByteArray) = s := by subst h; rfl
theorem rune_i32 {r : Int} (h : Lib.validRune r = true) : -2147483648 ≤ r ∧ r ≤ 2147483647 := by have := rune_bd h; omega

/-- Encode answers the text t and the error er at the list l. -/
def EncAt (l : List Int) (t : ByteArray) (er : Int) : Prop := ∀ w u, Runs w u l → Calls Tryd.prog 88 #[u] w fun e w' => e = .returned (.tuple #[.string t, .int .i64 er]) ∧ Below w.heap.size w w'
theorem encAt_yes (l : List Int) (hlen : l.length * 4 + 4 ≤ 140737488355328) (hv : allRunes l = true) : EncAt l ⟨(encL l).toArray⟩ 0 := fun w u hu => by
  have := encode_any u l w hu hlen (fun x hx => rune_i32 (List.all_eq_true.1 hv x hx))
  simpa [encS, encErr, hv] using this
theorem encAt_no (l : List Int) (hlen : l.length * 4 + 4 ≤ 140737488355328) (hwf : ∀ x ∈ l, -2147483648 ≤ x ∧ x ≤ 2147483647) (hv : allRunes l = false) : EncAt l ⟨#[]⟩ 3 := fun w u hu => by
  have := encode_any u l w hu hlen hwf
  simpa [encS, encErr, hv] using this

end Go.Proofs.YtljaibhhkjapmaaDoor

/- The law RunesTokens, walked: a token is a text of one to so many runes; a letter's text is one of letters, and of two, too. -/
namespace Go.Proofs.YtljaibhhkjapmaaDoor
open Go.RowKit Go.Shelf

/-- Of a text there are as many runes as are counted. -/
theorem count_items (s : ByteArray) : ∀ (fuel pos : Nat), s.size - pos ≤ fuel → Lib.validD (s.data.toList.drop pos) = true → Lib.runeCountFrom s fuel pos = (items (s.data.toList.drop pos)).length := by
  intro fuel
  induction fuel with
  | zero =>
    intro pos hf hv
    rw [List.drop_of_length_le (by rw [← Lib.size_eq]; omega)]
    rw [Lib.runeCountFrom_end _ _ _ (by omega)]; rfl
  | succ fuel ih =>
    intro pos hf hv
    by_cases hp : pos < s.size
    · have hne := drop_ne s pos hp
      have hd : Utf8.decode s pos = Lib.decodeL (s.data.toList.drop pos) := by
        rw [Lib.decodeL_N, Lib.decode_N]
        simp [List.getD_eq_getElem?_getD, List.getElem?_drop]
      have hb : badB (s.data.toList.drop pos) = false := by
        cases h : badB (s.data.toList.drop pos) with
        | false => rfl
        | true => rw [valid_step _ hne, h] at hv; simp at hv
      rw [valid_step _ hne, hb] at hv
      simp only [Bool.false_eq_true, if_false, List.drop_drop] at hv
      have hw := Lib.decodeL_width (s.data.toList.drop pos)
      rw [items_step _ hne, hb]
      simp only [Bool.false_eq_true, if_false, List.length_cons, List.drop_drop]
      rw [← ih (pos + (Lib.decodeL (s.data.toList.drop pos)).2) (by omega) hv, ← hd]
      simp only [Lib.runeCountFrom, hp, if_true]
      omega
    · rw [List.drop_of_length_le (by rw [← Lib.size_eq]; omega), Lib.runeCountFrom_end _ _ _ hp]; rfl
theorem count_valid (s : ByteArray) (hv : Lib.validD s.data.toList = true) : Lib.runeCount s = (items s.data.toList).length := by
  have := count_items s s.size 0 (by omega) (by simpa using hv)
  simpa [Lib.runeCount] using this

theorem letter_valid (r : Int) (h : letterB r = true) : Lib.validRune r = true := by
  unfold letterB at h
  simp only [decide_eq_true_eq] at h
  rcases h with h | h | h
  · simp [Lib.validRune]; omega
  · simp [Lib.validRune]; omega
  · exact h.2.1
theorem letters_one (r : Int) (t : List Int) (h : Lib.validRune r = true) (ht : ∀ x ∈ t, Lib.validRune x = true) : lettersB (encL (r :: t)) = (letterB r && t.all letterB) := by
  unfold lettersB
  have hr : ∀ x ∈ r :: t, Lib.validRune x = true := by intro x hx; rcases List.mem_cons.1 hx with rfl | hx; exact h; exact ht x hx
  rw [(items_of_enc (r :: t) hr).1]
  have : (encL (r :: t)).isEmpty = false := by
    rw [encL_cons]
    have := encodeRune_len r
    cases h : Lib.encodeRune r with
    | nil => rw [h] at this; simp at this
    | cons _ _ => rfl
  rw [this]; simp
theorem enc_blank : Lib.encodeRune 32 = [32] := by decide +kernel


theorem runs_lit (w : World) (r : Int) : Runs (w.alloc (.cells #[.int .i32 r] 21)) (.slice (some ⟨w.heap.size, 0, none⟩) 1 1) [r] := by
  refine ⟨some ⟨w.heap.size, 0, none⟩, 1, rfl, by simp, ⟨by simp [maxLen], fun h => by cases h⟩, fun _ => ⟨w.heap.size, 0, rfl, by simp, fun j hj => ?_⟩⟩
  obtain rfl : j = 0 := by simp at hj; exact hj
  exact cell_of_row _ _ _ #[.int .i32 r] 21 (0, 0) (heap_alloc_new w _)
end Go.Proofs.YtljaibhhkjapmaaDoor

