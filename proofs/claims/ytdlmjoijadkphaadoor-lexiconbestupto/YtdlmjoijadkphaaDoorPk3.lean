/- Texts that several proofs of this seat share, one behind the other: Join RefSmall RefFirst Encode Back Tokens RefDecode XRow. -/
import Derived.Test.YtdlmjoijadkphaaDoorPk2
import Derived.OwnWalk
import Derived.Maps.AppendAt
import Derived.Test.YtdlmjoijadkphaaDoorPk1
import Derived.IntWalk
import Derived.BigRegion
import Derived.Deep.RegionWith
import Derived.Laws.IdiomStrings
import Derived.Lib.RuneCount
import Derived.Lib.RuneCountTail
import Derived.OpenShut
import Derived.Lib.SliceRun
import Derived.Deep.RegionLaw
import Derived.Deep.RegionHeld3
/- The law RunesJoin, walked: two texts one behind the other have the runes of both. -/
namespace Go.Proofs.YtdlmjoijadkphaaDoor
open Go.RowKit Go.Shelf

def RetTrue (w : World) (e : Ending) (w' : World) : Prop := e = .returned (.bool true) ∧ Below w.heap.size w w'

theorem addr_add (b o j : Nat) : (⟨b, o, none⟩ : Addr).add j = ⟨b, o + j, none⟩ := by
  unfold Addr.add
  by_cases h : j = 0
  · subst h; rfl
  · simp [h]
/-- An append whose run is known, guarded or not. -/
theorem wpList_append_run {P : Program} {w : World} {ops : Array Oper} {rest : List Oper} {o : Oper} {a : Act} {Q : Exit → Act → World → Prop} (s x : Operand) (t : TypeId) (v u v' : Value) (w' : World)
    (hrun : (Builtin.append_ #[t, t] o.type #[v, u]).run P w = .ok v' w') (hw : Region.wanted o (yielded ops a.tmps) = true)
    (ho : o.op = .call { callee := .builtin .append, args := #[s, x], argTypes := #[t, t] }) (hs : a.eval s = v) (hx : a.eval x = u)
    (h : wpList P ops Q rest (a.put o.dst v') w') : wpList P ops Q (o :: rest) a w := by
  refine wpList_step fun K hK => ?_
  rw [if_pos hw]
  unfold Oper.wp execOp
  simp only [ho, resolve, invoke, builtin, Sem.run_bind, Sem.run_pure, Result.andThen_ok, List.map_toArray, List.map_cons, List.map_nil, hs, hx, hrun]
  exact hK _ _ h
/-- append(v, u...) of a row of the call's own and a list of runes. -/
theorem append_runs (w : World) (base : Nat) (v : Value) (n : Nat) (xs : List Value) (hown : w.ownsRow base 21 1 v n xs) (u : Value) (ys : List Int) (hu : Runs w u ys) (hbase : base ≤ w.heap.size) (hlen : (n + ys.length) * 4 ≤ 140737488355328) :
    ∃ v' w', (Builtin.append_ #[52, 52] 52 #[v, u]).run Tryd.prog w = .ok v' w' ∧ w'.ownsRow base 21 1 v' (n + ys.length) (xs ++ ys.map (Value.int .i32)) ∧ w.grownBy w' v.ownBlock ∧ (v'.ownBlock = v.ownBlock ∨ v'.ownBlock = some w.heap.size) := by
  obtain ⟨i0, hi, hz0, hz1, hz2⟩ := info_parts info32
  obtain ⟨A, c, rfl, hxc, ⟨hxm, hc0⟩, hxx⟩ := hu
  cases A with
  | none =>
    obtain rfl := hc0 rfl
    have h0 : ys = [] := List.eq_nil_of_length_eq_zero (by omega)
    subst h0
    exact ⟨v, w, run_append_owned_none (P := Tryd.prog) (w := w) base 52 52 21 i0 1 Tryd.underlying52 hi v n xs hown, by simpa using hown, World.grownBy.refl w _, .inl rfl⟩
  | some ad =>
    have hcells : ∀ j u, (ys.map (Value.int .i32))[j]? = some u → w.cell? (ad.add j) = some u := by
      intro j u hj
      rw [List.getElem?_map] at hj
      obtain ⟨z, hz, rfl⟩ := Option.map_eq_some_iff.1 hj
      obtain ⟨hjl, hjz⟩ := List.getElem?_eq_some_iff.1 hz
      obtain ⟨b, o, e, _, hc⟩ := hxx (by omega)
      have e := Option.some.inj e
      subst e
      rw [addr_add, hc j hjl, List.getD_eq_getElem?_getD, hz]
      rfl
    obtain ⟨v', w', hrun, h2, h3, _, h5⟩ := run_append_own_at (P := Tryd.prog) w base 52 52 21 i0 _ 1 4 Tryd.underlying52 hi hz0 hz1 hz2 rfl (by decide) v n xs hown ad ys.length c (ys.map (Value.int .i32)) (by simp) hcells (fun u hu => by obtain ⟨z, _, rfl⟩ := List.mem_map.1 hu; rfl) (by unfold maxLen; omega) hlen hbase
    exact ⟨v', w', hrun, h2, h3, h5⟩
theorem own_lit (w : World) : (w.alloc (.cells #[] 21)).ownsRow w.heap.size 21 1 (.slice (some ⟨w.heap.size, 0, none⟩) 0 0) 0 [] :=
  ⟨by simp, .inr ⟨w.heap.size, 0, #[], rfl, Nat.le_refl _, heap_alloc_new w _, Nat.le_refl _, by simp [maxLen], by simp, by simp⟩⟩
/-- Decode answers the runes xs and the error er at the text s. -/
def DecAt (s : ByteArray) (xs : List Int) (er : Int) : Prop := ∀ w, Okw w → Calls Tryd.prog 40 #[.string s] w fun e w' => ∃ A c, e = .returned (.tuple #[.slice A xs.length c, .int .i64 er]) ∧ Runs w' (.slice A xs.length c) xs ∧ Below w.heap.size w w'
theorem decAt (s : ByteArray) (hs : s.size * 4 ≤ 140737488355328) : DecAt s (decRunes s.data.toList) (decErr s.data.toList) := fun w h => decode_runs s w hs h.1 h.2
theorem decAt_yes (s : ByteArray) (hs : s.size * 4 ≤ 140737488355328) (hv : Lib.validD s.data.toList = true) : DecAt s (items s.data.toList) 0 := by
  have := decAt s hs; simpa [decRunes, decErr, hv] using this
theorem decAt_no (s : ByteArray) (hs : s.size * 4 ≤ 140737488355328) (hv : Lib.validD s.data.toList = false) : DecAt s [] 3 := by
  have := decAt s hs; simpa [decRunes, decErr, hv] using this
theorem app_toList (a b : ByteArray) : (a ++ b).data.toList = a.data.toList ++ b.data.toList := by simp
theorem app_size (a b : ByteArray) : (a ++ b).size = a.size + b.size := by simp

end Go.Proofs.YtdlmjoijadkphaaDoor

/- The document's answers for one number: IsRune, Letter, a rune's bytes. -/
namespace Go.Proofs.YtdlmjoijadkphaaDoor
open Go.RowKit Go.Shelf

theorem rune_cases (r : Int) : r < 0 ∨ (0 ≤ r ∧ r ≤ 55295) ∨ (55296 ≤ r ∧ r ≤ 57343) ∨ (57344 ≤ r ∧ r ≤ 1114111) ∨ 1114112 ≤ r := by omega
theorem vr_no (r : Int) (h : r < 0 ∨ (55296 ≤ r ∧ r ≤ 57343) ∨ 1114112 ≤ r) : Lib.validRune r = false := by
  unfold Lib.validRune; simp only [decide_eq_false_iff_not]; omega
theorem vr_yes (r : Int) (h : (0 ≤ r ∧ r ≤ 55295) ∨ (57344 ≤ r ∧ r ≤ 1114111)) : Lib.validRune r = true := by
  unfold Lib.validRune; simp only [decide_eq_true_eq]; omega

set_option maxRecDepth 100000 in
set_option maxHeartbeats 1000000 in
theorem isRune_any (r : Int) (w : World) : Calls Tryd.prog 67 #[.int .i32 r] w fun e w' => e = .returned (.bool (Lib.validRune r)) ∧ w = w' := by
  rcases rune_cases r with h | ⟨h1, h2⟩ | ⟨h1, h2⟩ | ⟨h1, h2⟩ | h
  · have d1 : decide (0 ≤ r) = false := by simp; omega
    go_enter Tryd.func67, Tryd.ntmps67
    go_wp2
    go_ret
    exact ⟨ret_bool (by rw [vr_no _ (by omega)]), rfl⟩
  · have d2 : decide (55296 ≤ r) = false := by simp; omega
    go_enter Tryd.func67, Tryd.ntmps67
    go_wp2
    go_ret
    exact ⟨ret_bool (by rw [vr_yes _ (by omega)]), rfl⟩
  · have h0 : 0 ≤ r := by omega
    have h3 : r ≤ 1114111 := by omega
    go_enter Tryd.func67, Tryd.ntmps67
    go_wp2
    go_ret
    exact ⟨ret_bool (by rw [vr_no _ (by omega)]), rfl⟩
  · have h0 : 0 ≤ r := by omega
    have h3 : 55296 ≤ r := by omega
    have d2 : decide (r ≤ 57343) = false := by simp; omega
    go_enter Tryd.func67, Tryd.ntmps67
    go_wp2
    go_ret
    exact ⟨ret_bool (by rw [vr_yes _ (by omega)]), rfl⟩
  · have h0 : 0 ≤ r := by omega
    have d1 : decide (r ≤ 1114111) = false := by simp; omega
    go_enter Tryd.func67, Tryd.ntmps67
    go_wp2
    go_ret
    exact ⟨ret_bool (by rw [vr_no _ (by omega)]), rfl⟩

theorem cells_enc (r : Int) : (Lib.byteCells (Lib.encodeRune r)) = Lib.runeCells r := Lib.byteCells_encodeRune r

set_option maxRecDepth 100000 in
set_option maxHeartbeats 1000000 in
theorem bytes_any (r : Int) (w : World) (h : Lib.validRune r = true) :
    Calls Tryd.prog 68 #[.int .i32 r] w fun e w' => e = .returned (.slice (some ⟨w.heap.size, 0, none⟩) (Lib.encodeRune r).length (Lib.encodeRune r).length) ∧ w' = w.alloc (.cells (Lib.byteCells (Lib.encodeRune r)).toArray 5) := by
  have hv := rune_bd h
  rw [cells_enc]
  unfold Lib.runeCells Lib.encodeRune
  by_cases a : r ≤ 127
  · have a0 : 0 ≤ r := by omega
    rw [Lib.encodeRuneZ_one (by omega) (by omega)]
    go_enter Tryd.func68, Tryd.ntmps68
    go_wp2
    go_ret
    exact ⟨rfl, rfl⟩
  · by_cases b : r ≤ 2047
    · have a0 : 128 ≤ r := by omega
      rw [Lib.encodeRuneZ_two (by omega) (by omega)]
      go_enter Tryd.func68, Tryd.ntmps68
      go_wp2
      go_ret
      exact ⟨rfl, rfl⟩
    · by_cases c : r ≤ 65535
      · have a0 : 2048 ≤ r := by omega
        rw [Lib.encodeRuneZ_three (by omega)]
        go_enter Tryd.func68, Tryd.ntmps68
        go_wp2
        go_ret
        exact ⟨rfl, rfl⟩
      · have a0 : 65536 ≤ r := by omega
        have a1 : r ≤ 1114111 := by omega
        rw [Lib.encodeRuneZ_four (by omega) (by omega)]
        go_enter Tryd.func68, Tryd.ntmps68
        go_wp2
        go_ret
        exact ⟨rfl, rfl⟩

theorem letter_cases2 (r : Int) : r < 65 ∨ (65 ≤ r ∧ r ≤ 90) ∨ (91 ≤ r ∧ r ≤ 96) ∨ (97 ≤ r ∧ r ≤ 122) ∨ (123 ≤ r ∧ r ≤ 191) ∨ (215 ≤ r ∧ r ≤ 215) ∨ (247 ≤ r ∧ r ≤ 247) ∨ (8192 ≤ r ∧ r ≤ 8303) ∨ (192 ≤ r ∧ r ≤ 214) ∨ (216 ≤ r ∧ r ≤ 246) ∨ (248 ≤ r ∧ r ≤ 8191) ∨ 8304 ≤ r := by omega
end Go.Proofs.YtdlmjoijadkphaaDoor

/- errataref01.first: the rune that some bytes begin with, as the decoder tells it. -/
namespace Go.Proofs.YtdlmjoijadkphaaDoor
open Go.RowKit Go.Shelf Go.Lib

/-- What the document reckons of the first n bytes. -/
def partR (l : List UInt8) (n : Nat) : Nat → Int
  | 0 => ((l.getD 0 0).toNat : Int) - (if n = 2 then 192 else if n = 3 then 224 else if n = 4 then 240 else 0)
  | k + 1 => partR l n k * 64 + ((l.getD (k + 1) 0).toNat : Int) - 128
def candR (l : List UInt8) (n : Nat) : Int := partR l n (n - 1)
def testR (l : List UInt8) (n : Nat) : Bool := Lib.validRune (candR l n) && decide (encodeRune (candR l n) = l.take n)

theorem byte_lt (b : UInt8) : b.toNat < 256 := b.toNat_lt
theorem cand1 (l : List UInt8) : candR l 1 = ((l.getD 0 0).toNat : Int) := by simp [candR, partR]
theorem cand2 (l : List UInt8) : candR l 2 = (((l.getD 0 0).toNat : Int) - 192) * 64 + ((l.getD 1 0).toNat : Int) - 128 := by simp [candR, partR]
theorem cand3 (l : List UInt8) : candR l 3 = ((((l.getD 0 0).toNat : Int) - 224) * 64 + ((l.getD 1 0).toNat : Int) - 128) * 64 + ((l.getD 2 0).toNat : Int) - 128 := by simp [candR, partR]
theorem cand4 (l : List UInt8) : candR l 4 = (((((l.getD 0 0).toNat : Int) - 240) * 64 + ((l.getD 1 0).toNat : Int) - 128) * 64 + ((l.getD 2 0).toNat : Int) - 128) * 64 + ((l.getD 3 0).toNat : Int) - 128 := by simp [candR, partR]

/-- A test that stands tells the rune. -/
theorem test_decode (l : List UInt8) (n : Nat) (hn : n ≤ l.length) (h : testR l n = true) : badB l = false ∧ decodeL l = ((candR l n).toNat, n) ∧ 0 ≤ candR l n := by
  unfold testR at h
  rw [Bool.and_eq_true, decide_eq_true_eq] at h
  obtain ⟨hv, he⟩ := h
  have hl : l = encodeRune (candR l n) ++ l.drop n := by rw [he, List.take_append_drop]
  have hlen : (encodeRune (candR l n)).length = n := by rw [he, List.length_take]; omega
  have hd := decode_encode (candR l n) (l.drop n) hv
  have hb := not_bad_enc (candR l n) (l.drop n) hv
  rw [← hl] at hd hb
  rw [hlen] at hd
  exact ⟨hb, hd, valid_nonneg hv⟩
/-- The rune that the bytes begin with stands its test. -/
theorem decode_test (l : List UInt8) (hne : l ≠ []) (hb : badB l = false) : testR l (decodeL l).2 = true ∧ candR l (decodeL l).2 = ((decodeL l).1 : Int) ∧ 1 ≤ (decodeL l).2 ∧ (decodeL l).2 ≤ 4 ∧ (decodeL l).2 ≤ l.length := by
  obtain ⟨r, t, hr, rfl⟩ := good_form l hne hb
  rw [decode_encode r t hr]
  have hlen := encodeRune_len r
  have h0 := valid_nonneg hr
  have hc : candR (encodeRune r ++ t) (encodeRune r).length = r := by
    obtain ⟨n, rfl, ⟨h1, e⟩ | ⟨h1, h2, e⟩ | ⟨h1, h2, e⟩ | ⟨h1, h2, e⟩⟩ := enc_forms r hr
    · rw [e]; simp only [List.length_cons, List.length_nil, Nat.reduceAdd]; rw [cand1]
      simp only [List.cons_append, List.getD_cons_zero]; rw [u8n _ (by omega)]
    · rw [e]; simp only [List.length_cons, List.length_nil, Nat.reduceAdd]; rw [cand2]
      simp only [List.cons_append, List.getD_cons_zero, List.getD_cons_succ]; rw [u8n _ (by omega), u8n _ (by omega)]; omega
    · rw [e]; simp only [List.length_cons, List.length_nil, Nat.reduceAdd]; rw [cand3]
      simp only [List.cons_append, List.getD_cons_zero, List.getD_cons_succ]; rw [u8n _ (by omega), u8n _ (by omega), u8n _ (by omega)]; omega
    · rw [e]; simp only [List.length_cons, List.length_nil, Nat.reduceAdd]; rw [cand4]
      simp only [List.cons_append, List.getD_cons_zero, List.getD_cons_succ]; rw [u8n _ (by omega), u8n _ (by omega), u8n _ (by omega), u8n _ (by omega)]; omega
  refine ⟨?_, ?_, hlen.1, hlen.2, by simp⟩
  · unfold testR; rw [hc, hr]; simp
  · simp only; rw [hc]; omega

/-- The answer: the rune and how many bytes it has; nothing of bytes that begin with none. -/
def firstR (l : List UInt8) : Int := if badB l then 0 else (decodeL l).1
def firstN (l : List UInt8) : Nat := if badB l then 0 else (decodeL l).2

theorem first_none (l : List UInt8) (hne : 0 < l.length) (h : ∀ j, 1 ≤ j → j ≤ 4 → j ≤ l.length → testR l j = false) : firstR l = 0 ∧ firstN l = 0 := by
  have hb : badB l = true := by
    cases hb : badB l with
    | true => rfl
    | false =>
      obtain ⟨h1, _, h2, h3, h4⟩ := decode_test l (List.length_pos_iff.1 hne) hb
      rw [h _ h2 h3 h4] at h1; cases h1
  simp [firstR, firstN, hb]
theorem part_bd (l : List UInt8) (n k : Nat) (hk : k ≤ 2) : -1000000 ≤ partR l n k ∧ partR l n k ≤ 1060000 := by
  have b0 := byte_lt (l.getD 0 0)
  have b1 := byte_lt (l.getD 1 0)
  have b2 := byte_lt (l.getD 2 0)
  have h0 : -240 ≤ partR l n 0 ∧ partR l n 0 ≤ 255 := by simp only [partR]; split <;> (try split) <;> (try split) <;> omega
  have : k = 0 ∨ k = 1 ∨ k = 2 := by omega
  rcases this with rfl | rfl | rfl
  · omega
  · simp only [partR, Nat.zero_add] at h0 ⊢; omega
  · simp only [partR, Nat.zero_add, Nat.reduceAdd] at h0 ⊢; omega
theorem byte_at (s : ByteArray) (k : Nat) (h : k < s.size) : s[k] = s.data.toList.getD k 0 := by
  rw [List.getD_eq_getElem?_getD, List.getElem?_eq_getElem (by rw [← Lib.size_eq]; exact h)]
  rfl

theorem test_next {l : List UInt8} {n : Nat} (h : ∀ j, 1 ≤ j → j < n → testR l j = false) (hn : testR l n = false) : ∀ j, 1 ≤ j → j < n + 1 → testR l j = false := by
  intro j h1 h2
  by_cases e : j = n
  · rw [e]; exact hn
  · exact h j h1 (by omega)
/-- A rune's bytes, and these as a string, each under one name. -/
theorem bytes_conv (r : Int) (h : Lib.validRune r = true) : ∃ (E : ByteArray) (O : Obj) (k : Nat),
    (∀ w : World, Calls Tryd.prog 68 #[.int .i32 r] w fun e w' => e = .returned (.slice (some ⟨w.heap.size, 0, none⟩) k k) ∧ w' = w.alloc O) ∧
    (∀ w : World, (convert 46 9 (.slice (some ⟨w.heap.size, 0, none⟩) k k)).run Tryd.prog (w.alloc O) = .ok (.string E) (w.alloc O) ∧
      (convert 46 9 (.slice (some ⟨w.heap.size, 0, none⟩) k k)).run Tryd.prog (w.alloc O).drew = .ok (.string E) (w.alloc O).drew) ∧
    Hid (E.data.toList = encodeRune r) := by
  refine ⟨⟨(encodeRune r).toArray⟩, _, _, fun w => bytes_any r w h, fun w => ?_, Lib.hid (by simp)⟩
  have hc : ∀ (w' : World), (∀ a, w'.cell? a = (w.alloc (.cells (byteCells (encodeRune r)).toArray 5)).cell? a) → ∀ j (hj : j < (encodeRune r).length), w'.cell? ((⟨w.heap.size, 0, none⟩ : Addr).add j) = some (.int .u8 ((encodeRune r)[j].toNat : Int)) := by
    intro w' hw j hj
    have e : ((⟨w.heap.size, 0, none⟩ : Addr).add j) = ⟨w.heap.size, 0 + j, none⟩ := by
      unfold Addr.add
      by_cases h : j = 0
      · subst h; rfl
      · simp [h]
    rw [hw, e, cell_of_row _ _ _ _ _ _ (heap_alloc_new w _)]
    simp [byteCells, hj]
  exact ⟨run_convert_bytes_back (P := Tryd.prog) _ 46 9 5 _ _ _ Tryd.underlying46 Tryd.underlying5 Tryd.underlying9 (hc _ (fun _ => rfl)),
    run_convert_bytes_back (P := Tryd.prog) _ 46 9 5 _ _ _ Tryd.underlying46 Tryd.underlying5 Tryd.underlying9 (hc _ (fun _ => rfl))⟩

set_option maxRecDepth 100000 in
set_option maxHeartbeats 4000000 in
theorem first_any (s : ByteArray) (w : World) (hs : s.size ≤ maxLen) (hpos : 0 < s.size) :
    Calls Tryd.prog 52 #[.string s] w fun e w' => e = .returned (.tuple #[.int .i32 (firstR s.data.toList), .int .i64 (firstN s.data.toList)]) ∧ Below w.heap.size w w' := by
  unfold maxLen at hs
  obtain ⟨R, hR⟩ : ∃ R, firstR s.data.toList = R := ⟨_, rfl⟩
  obtain ⟨K, hK⟩ : ∃ K, firstN s.data.toList = K := ⟨_, rfl⟩
  rw [hR, hK]
  have HR := Lib.hid hR; clear hR
  have HK := Lib.hid hK; clear hK
  go_enter Tryd.func52, Tryd.ntmps52
  go_wp2
  go_loopw [4] (fun s4 wr => ∃ n : Nat, s4 = .int .i64 n ∧ 1 ≤ n ∧ n ≤ 5 ∧ n ≤ s.size + 1 ∧ Below w.heap.size w wr ∧ Hid (∀ j, 1 ≤ j → j < n → testR s.data.toList j = false)) (fun s4 _ => 5 - (RowKit.intOf s4).toNat)
  case atStart => exact ⟨1, rfl, by omega, by omega, by omega, Below.refl _ _, Lib.hid (fun j h1 h2 => by omega)⟩
  case round =>
    obtain ⟨n, rfl, hn1, hn5, hns, hB, HT⟩ := hrel
    obtain ⟨W1, rfl⟩ : ∃ W1, W1 = wr := ⟨wr, rfl⟩
    by_cases h4 : n ≤ 4
    · by_cases hsz : n ≤ s.size
      · have hx0 := byte_at s 0 (by omega)
        obtain ⟨x0, hx⟩ : ∃ x0, s.data.toList.getD 0 0 = x0 := ⟨_, rfl⟩
        rw [hx] at hx0
        have HX := Lib.hid hx; clear hx
        have hb0 := byte_lt x0
        have i0 : (0 : Int) < (s.size : Int) := by omega
        have h0p : partR s.data.toList n 0 = (x0.toNat : Int) - (if n = 2 then 192 else if n = 3 then 224 else if n = 4 then 240 else 0) := by simp only [partR, HX.out]
        have : n = 1 ∨ n = 2 ∨ n = 3 ∨ n = 4 := by omega
        have q1 : decide ((n : Int) ≤ 4) = true := by simp; omega
        have q2 : decide ((n : Int) ≤ (s.size : Int)) = true := by simp; omega
        have hcan : candR s.data.toList n = partR s.data.toList n (n - 1) := rfl
        rcases this with e | e | e | e
        all_goals
          simp only [e, Nat.reduceEqDiff, if_true, if_false] at h0p
        all_goals rw [← e] at h0p
        all_goals
          have H0 := Lib.hid h0p
          clear h0p
          (try have t2 : ((n : Int) == 2) = true := by simp; omega)
          (try have f2 : ((n : Int) == 2) = false := by simp; omega)
          (try have t3 : ((n : Int) == 3) = true := by simp; omega)
          (try have f3 : ((n : Int) == 3) = false := by simp; omega)
          (try have t4 : ((n : Int) == 4) = true := by simp; omega)
          (try have f4 : ((n : Int) == 4) = false := by simp; omega)
          have HE := Lib.hid e
          clear e
          go_wp2
        all_goals
          go_loopw [5, 6] (fun s5 s6 wr2 => ∃ (i : Nat) (p : Int), s6 = .int .i64 i ∧ s5 = .int .i32 p ∧ 1 ≤ i ∧ i ≤ n ∧ W1 = wr2 ∧ Hid (partR s.data.toList n (i - 1) = p)) (fun _ s6 _ => n - (RowKit.intOf s6).toNat)
          case atStart => exact ⟨1, _, rfl, rfl, by omega, by omega, rfl, Lib.hid (by rw [H0.out]; try omega)⟩
          case round =>
            obtain ⟨i, p, rfl, rfl, hi1, hi2, rfl, HP⟩ := hrel
            by_cases hlt : i < n
            · have hbp := part_bd s.data.toList n (i - 1) (by omega)
              rw [HP.out] at hbp
              have hxi := byte_at s i (by omega)
              obtain ⟨xi, hx⟩ : ∃ xi, s.data.toList.getD i 0 = xi := ⟨_, rfl⟩
              rw [hx] at hxi
              have hbi := byte_lt xi
              have hnext : partR s.data.toList n (i - 1 + 1) = p * 64 + (xi.toNat : Int) - 128 := by simp only [partR]; rw [HP.out, show i - 1 + 1 = i by omega, hx]
              rw [show i - 1 + 1 = i + 1 - 1 by omega] at hnext
              have HN := Lib.hid hnext
              clear hx hnext
              have j1 : (i : Int) < (s.size : Int) := by omega
              obtain ⟨p1, p2⟩ := hbp
              go_wp2
              go_roundw
              case rel => exact ⟨i + 1, _, by go_num, rfl, by omega, by omega, by first | rfl | trivial, Lib.hid (by rw [HN.out])⟩
              case measure => simp [RowKit.intOf]; omega
            · obtain rfl : n = i := by omega
              go_wp2
              clear hx0 hb0 H0 i0
              (try clear t2); (try clear f2); (try clear t3); (try clear f3); (try clear t4); (try clear f4)
              cases hv : Lib.validRune p
              · have c1 := isRune_any p
                rw [hv] at c1
                have C1 := Lib.hid c1
                have HV := Lib.hid hv
                clear c1 hv
                go_quiet ((go_at_call 67; exact Calls.quiet_of_same ((C1.out _).mono fun e w' h => ⟨h.1, h.2.symm⟩)))
                go_wp2
                go_roundw
                case rel => exact ⟨n + 1, by go_num, by omega, by omega, by omega, below_draws hB _, Lib.hid (test_next HT.out (by unfold testR; rw [hcan, HP.out, HV.out]; rfl))⟩
                case measure => simp [RowKit.intOf]; omega
              · have c1 := isRune_any p
                rw [hv] at c1
                have C1 := Lib.hid c1
                have HV := Lib.hid hv
                clear c1 hv
                obtain ⟨E, O, k, c2, hcv, hE⟩ := bytes_conv p HV.out
                have C2 := Lib.hid c2
                clear c2
                have hcv1 := (hcv W1).1
                have hcv2 := (hcv W1).2
                clear hcv
                go_region_with (first | (go_at_call 67; refine (C1.out _).mono ?_; rintro e w' ⟨rfl, rfl⟩) | (go_at_call 68; refine (C2.out _).mono ?_; rintro e w' ⟨rfl, rfl⟩))
                clear hcv1 hcv2 C1 C2
                have hlt : (s.extract 0 n).toList = s.data.toList.take n := by rw [Lib.toList_data, Lib.extract_data]; simp
                have HL := Lib.hid hlt
                clear hlt
                have hB2 : Below w.heap.size w (W1.alloc O).drew := (hB.alloc hB.size _).drew
                have hEt := Lib.toList_data E
                have HE2 := Lib.hid hEt
                clear hEt
                cases hq : (E.toList == (s.extract 0 n).toList)
                · have HQ := Lib.hid hq
                  go_wp2
                  go_roundw
                  case rel =>
                    refine ⟨n + 1, by go_num, by omega, by omega, by omega, hB2, Lib.hid (test_next HT.out ?_)⟩
                    have h1 := HQ.out
                    rw [HE2.out, hE.out, HL.out] at h1
                    have h2 : ¬ Lib.encodeRune p = s.data.toList.take n := by simpa using h1
                    unfold testR
                    rw [hcan, HP.out, HV.out]
                    simp [h2]
                  case measure => simp [RowKit.intOf]; omega
                · have HQ := Lib.hid hq
                  go_wp2
                  go_ret2
                  have h1 := HQ.out
                  rw [HE2.out, hE.out, HL.out] at h1
                  have h2 : Lib.encodeRune p = s.data.toList.take n := by simpa using h1
                  have ht : testR s.data.toList n = true := by
                    unfold testR
                    rw [hcan, HP.out, HV.out]
                    simp [h2]
                  obtain ⟨g1, g2, g3⟩ := test_decode s.data.toList n (by rw [← Lib.size_eq]; exact hsz) ht
                  rw [hcan, HP.out] at g2 g3
                  have r1 : R = p := by rw [← HR.out]; unfold firstR; rw [g1, g2]; simp; omega
                  have r2 : K = n := by rw [← HK.out]; unfold firstN; rw [g1, g2]; simp
                  exact ⟨by rw [r1, r2]; rfl, hB2⟩
      · have q1 : decide ((n : Int) ≤ 4) = true := by simp; omega
        have q2 : decide ((n : Int) ≤ (s.size : Int)) = false := by simp; omega
        obtain ⟨r1, r2⟩ := first_none s.data.toList (by rw [← Lib.size_eq]; exact hpos) (fun j a b c => HT.out j a (by rw [← Lib.size_eq] at c; omega))
        go_wp2
        go_ret2
        exact ⟨by rw [← HR.out, ← HK.out, r1, r2]; rfl, hB⟩
    · have q1 : decide ((n : Int) ≤ 4) = false := by simp; omega
      obtain ⟨r1, r2⟩ := first_none s.data.toList (by rw [← Lib.size_eq]; exact hpos) (fun j a b c => HT.out j a (by omega))
      go_wp2
      go_ret2
      exact ⟨by rw [← HR.out, ← HK.out, r1, r2]; rfl, hB⟩
end Go.Proofs.YtdlmjoijadkphaaDoor

/- runes.Encode: what it answers, for every list of numbers. -/
namespace Go.Proofs.YtdlmjoijadkphaaDoor
open Go.RowKit Go.Shelf

def allRunes (l : List Int) : Bool := l.all Lib.validRune
def encErr (l : List Int) : Int := if allRunes l then 0 else 3
def encS (l : List Int) : List UInt8 := if allRunes l then encL l else []

theorem encL_take (l : List Int) (k : Nat) (h : k < l.length) : encL (l.take (k + 1)) = encL (l.take k) ++ Lib.encodeRune (l.getD k 0) := by
  rw [List.take_succ_eq_append_getElem h, encL_append]
  simp [encL, List.getD_eq_getElem?_getD, h]
theorem all_take (l : List Int) (k : Nat) (h : k < l.length) : allRunes (l.take (k + 1)) = (allRunes (l.take k) && Lib.validRune (l.getD k 0)) := by
  unfold allRunes
  rw [List.take_succ_eq_append_getElem h, List.all_append, List.getD_eq_getElem?_getD, List.getElem?_eq_getElem h]
  simp
theorem all_no (l : List Int) (k : Nat) (h : k < l.length) (hv : Lib.validRune (l.getD k 0) = false) : allRunes l = false := by
  unfold allRunes; rw [List.all_eq_false]
  exact ⟨l.getD k 0, by simp [List.getD_eq_getElem?_getD, h], fun h' => by rw [hv] at h'; cases h'⟩

end Go.Proofs.YtdlmjoijadkphaaDoor

/- The law RunesBack, walked: what is encoded is decoded, what is decoded is encoded as it was. -/
namespace Go.Proofs.YtdlmjoijadkphaaDoor
open Go.RowKit Go.Shelf

theorem mk_toList (l : List UInt8) : (ByteArray.mk l.toArray).data.toList = l := by simp
theorem mk_data (s : ByteArray) (l : List UInt8) (h : l = s.data.toList) : (⟨l.toArray⟩ : ByteArray) = s := by subst h; rfl
theorem rune_i32 {r : Int} (h : Lib.validRune r = true) : -2147483648 ≤ r ∧ r ≤ 2147483647 := by have := rune_bd h; omega


end Go.Proofs.YtdlmjoijadkphaaDoor

/- The law RunesTokens, walked: a token is a text of one to so many runes; a letter's text is one of letters, and of two, too. -/
namespace Go.Proofs.YtdlmjoijadkphaaDoor
open Go.RowKit Go.Shelf

/-- Of a text there are as many runes as are counted. -/
theorem count_items (s : ByteArray) : ∀ (fuel pos : Nat), s.size - pos ≤ fuel → Lib.validD (s.data.toList.drop pos) = true → Lib.runeCountFrom s fuel pos = (items (s.data.toList.drop pos)).length := by
  intro fuel
  induction fuel with
  | zero =>
    intro pos hf hv
    rw [List.drop_of_length_le (by rw [← Lib.size_eq]; omega)]
    rw [Lib.runeCountFrom_end _ _ _ (by omega)]; rfl
  | succ fuel ih =>
    intro pos hf hv
    by_cases hp : pos < s.size
    · have hne := drop_ne s pos hp
      have hd : Utf8.decode s pos = Lib.decodeL (s.data.toList.drop pos) := by
        rw [Lib.decodeL_N, Lib.decode_N]
        simp [List.getD_eq_getElem?_getD, List.getElem?_drop]
      have hb : badB (s.data.toList.drop pos) = false := by
        cases h : badB (s.data.toList.drop pos) with
        | false => rfl
        | true => rw [valid_step _ hne, h] at hv; simp at hv
      rw [valid_step _ hne, hb] at hv
      simp only [Bool.false_eq_true, if_false, List.drop_drop] at hv
      have hw := Lib.decodeL_width (s.data.toList.drop pos)
      rw [items_step _ hne, hb]
      simp only [Bool.false_eq_true, if_false, List.length_cons, List.drop_drop]
      rw [← ih (pos + (Lib.decodeL (s.data.toList.drop pos)).2) (by omega) hv, ← hd]
      simp only [Lib.runeCountFrom, hp, if_true]
      omega
    · rw [List.drop_of_length_le (by rw [← Lib.size_eq]; omega), Lib.runeCountFrom_end _ _ _ hp]; rfl
theorem count_valid (s : ByteArray) (hv : Lib.validD s.data.toList = true) : Lib.runeCount s = (items s.data.toList).length := by
  have := count_items s s.size 0 (by omega) (by simpa using hv)
  simpa [Lib.runeCount] using this

theorem letter_valid (r : Int) (h : letterB r = true) : Lib.validRune r = true := by
  unfold letterB at h
  simp only [decide_eq_true_eq] at h
  rcases h with h | h | h
  · simp [Lib.validRune]; omega
  · simp [Lib.validRune]; omega
  · exact h.2.1
theorem letters_one (r : Int) (t : List Int) (h : Lib.validRune r = true) (ht : ∀ x ∈ t, Lib.validRune x = true) : lettersB (encL (r :: t)) = (letterB r && t.all letterB) := by
  unfold lettersB
  have hr : ∀ x ∈ r :: t, Lib.validRune x = true := by intro x hx; rcases List.mem_cons.1 hx with rfl | hx; exact h; exact ht x hx
  rw [(items_of_enc (r :: t) hr).1]
  have : (encL (r :: t)).isEmpty = false := by
    rw [encL_cons]
    have := encodeRune_len r
    cases h : Lib.encodeRune r with
    | nil => rw [h] at this; simp at this
    | cons _ _ => rfl
  rw [this]; simp
theorem enc_blank : Lib.encodeRune 32 = [32] := by decide +kernel


theorem runs_lit (w : World) (r : Int) : Runs (w.alloc (.cells #[.int .i32 r] 21)) (.slice (some ⟨w.heap.size, 0, none⟩) 1 1) [r] := by
  refine ⟨some ⟨w.heap.size, 0, none⟩, 1, rfl, by simp, ⟨by simp [maxLen], fun h => by cases h⟩, fun _ => ⟨w.heap.size, 0, rfl, by simp, fun j hj => ?_⟩⟩
  obtain rfl : j = 0 := by simp at hj; exact hj
  exact cell_of_row _ _ _ #[.int .i32 r] 21 (0, 0) (heap_alloc_new w _)
end Go.Proofs.YtdlmjoijadkphaaDoor

/- errataref01.Decode, Letters, Token: the document's answers, for every string. -/
namespace Go.Proofs.YtdlmjoijadkphaaDoor
open Go.RowKit Go.Shelf

theorem own_below {w w' : World} {base : Nat} {e : TypeId} {size n : Nat} {v : Value} {xs : List Value} (h : w.ownsRow base e size v n xs) (hb : Below w.heap.size w w') : w'.ownsRow base e size v n xs :=
  h.kept (grown_none hb) (by cases hv : v.ownBlock with
    | none => exact .inl rfl
    | some g => exact .inr (by simp))
theorem own_block {w : World} {base : Nat} {e : TypeId} {size n : Nat} {v : Value} {xs : List Value} (h : w.ownsRow base e size v n xs) : ∀ g, v.ownBlock = some g → base ≤ g := by
  intro g hg
  rcases h.2 with ⟨rfl, _⟩ | ⟨g', cap, cur, rfl, hb, _⟩
  · simp [Value.ownBlock] at hg
  · obtain rfl : g' = g := by simpa [Value.ownBlock] using hg
    exact hb
/-- The length of a string in a slot. -/
def strLen : Value → Nat | .string t => t.size | _ => 0

set_option maxRecDepth 100000 in
set_option maxHeartbeats 2000000 in
theorem refDecode_any (s : ByteArray) (w : World) (hs : s.size * 4 ≤ 140737488355328) :
    Calls Tryd.prog 41 #[.string s] w (DecPost s w) := by
  obtain ⟨L, hL⟩ : ∃ L, s.data.toList = L := ⟨_, rfl⟩
  have hLl : L.length = s.size := by rw [← hL, Lib.size_eq]
  have HL := Lib.hid hL; clear hL
  clear hLl
  go_enter Tryd.func41, Tryd.ntmps41
  go_wp2
  go_loopw [0, 4] (fun s0 s4 wr => ∃ (k : Nat) (t : ByteArray) (pre : List Int), s0 = .string t ∧ k + t.size ≤ s.size ∧ pre.length ≤ k ∧ Hid (t.data.toList = L.drop k) ∧ wr.ownsRow w.heap.size 21 1 s4 pre.length (pre.map (Value.int .i32)) ∧ Below w.heap.size w wr ∧ Hid (items L = pre ++ items (L.drop k)) ∧ Hid (Lib.validD L = Lib.validD (L.drop k))) (fun s0 _ _ => strLen s0)
  case atStart => exact ⟨0, s, [], rfl, by omega, by simp, Lib.hid (by rw [HL.out]; simp), World.ownsRow_nil _ _ _ _, Below.refl _ _, Lib.hid (by simp), Lib.hid (by simp)⟩
  case round =>
    obtain ⟨k, t, pre, rfl, hkt, hpk, HT, hrow, hB, HI, HV⟩ := hrel
    by_cases hpos : 0 < t.size
    · have C := Lib.hid (first_any t wr (by unfold maxLen; omega) hpos)
      have hne : L.drop k ≠ [] := by
        intro e
        have h1 := HT.out
        rw [e] at h1
        have h2 := Lib.size_eq t
        rw [h1, List.length_nil] at h2; omega
      have hst := items_step _ hne
      have hvt := valid_step _ hne
      rw [HT.out] at C
      have hp1 : (0 : Int) < (t.size : Int) := by omega
      cases hb : badB (L.drop k)
      · have hle := Lib.decodeL_le _ hne
        have hwd := Lib.decodeL_width (L.drop k)
        have hle2 : (Lib.decodeL (L.drop k)).2 ≤ t.size := by rw [Lib.size_eq, HT.out]; exact hle
        rw [hb] at hst hvt
        simp only [Bool.false_eq_true, if_false, List.drop_drop] at hst hvt
        have e1 : firstR (L.drop k) = ((Lib.decodeL (L.drop k)).1 : Int) := by simp [firstR, hb]
        have e2 : firstN (L.drop k) = (Lib.decodeL (L.drop k)).2 := by simp [firstN, hb]
        rw [e1, e2] at C
        obtain ⟨R, hR⟩ : ∃ R, (Lib.decodeL (L.drop k)).1 = R := ⟨_, rfl⟩
        obtain ⟨K, hK⟩ : ∃ K, (Lib.decodeL (L.drop k)).2 = K := ⟨_, rfl⟩
        rw [hR, hK] at C hst
        rw [hK] at hvt hle2 hwd
        have HS := Lib.hid hst
        have HVT := Lib.hid hvt
        clear hst hvt e1 e2 hb hle hne hR hK
        have hK0 : ((K : Int) == 0) = false := by simp; omega
        go_wp2_with fail
        refine C.out.mono ?_
        rintro e w1 ⟨rfl, hb1⟩
        have hrow1 := own_below hrow hb1
        have hB1 : Below w.heap.size w w1 := hB.trans (hb1.mono hB.size)
        have hBa : Below w1.heap.size w1 (w1.alloc (.cells #[.int .i32 (R : Int)] 21)) := (Below.refl _ _).alloc (Nat.le_refl _) _
        obtain ⟨v2, w2, hrun, hown, hg, _⟩ := append_runs _ w.heap.size _ _ _ (own_below hrow1 hBa) _ [(R : Int)] (runs_lit w1 R) (Nat.le_trans hB1.size hBa.size) (by simp; omega)
        have hB2 : Below w.heap.size w w2 := (hB1.trans (hBa.mono hB1.size)).grown hg (Nat.le_trans hB1.size hBa.size) (own_block hrow)
        have HR := Lib.hid hrun
        clear hrun
        have hsl : (K : Int) ≤ (t.size : Int) := by omega
        go_wp2_with (at_builtin; refine wpList_append_run (.tmp 17) (.tmp 19) 52 _ _ _ _ HR.out rfl rfl rfl rfl ?_)
        go_roundw
        case rel =>
          refine ⟨k + K, t.extract K t.size, pre ++ [(R : Int)], rfl, by simp; omega, by simp; omega, Lib.hid (by rw [Lib.extract_to_end, HT.out, List.drop_drop]), by simpa using hown, hB2, Lib.hid (by rw [HI.out, HS.out]; simp), Lib.hid (by rw [HV.out, HVT.out])⟩
        case measure => simp [strLen]; omega
      · rw [hb] at hst hvt
        simp only [if_true] at hst hvt
        have e1 : firstR (L.drop k) = 0 := by simp [firstR, hb]
        have e2 : firstN (L.drop k) = 0 := by simp [firstN, hb]
        rw [e1, e2] at C
        have HVT := Lib.hid hvt
        clear hst hvt e1 e2 hb hne
        go_wp2_with (go_at_call 52; refine C.out.mono ?_; rintro e w1 ⟨rfl, hb1⟩)
        go_ret2
        unfold DecPost
        rw [HL.out, HV.out, HVT.out]
        exact ⟨_, rfl, World.ownsRow_nil _ _ _ _, hB.trans (hb1.mono hB.size)⟩
    · have hz : t.size = 0 := by omega
      have hdr : L.drop k = [] := by
        have h1 := HT.out
        have h2 := Lib.size_eq t
        rw [h1, hz] at h2
        exact List.eq_nil_of_length_eq_zero h2.symm
      have HD := Lib.hid hdr
      have hp1 : ¬ (0 : Int) < (t.size : Int) := by omega
      clear hdr
      go_wp2
      go_ret2
      unfold DecPost
      rw [HL.out, HV.out, HI.out, HD.out, Lib.validD_nil, items_nil, List.append_nil]
      exact ⟨_, rfl, hrow, hB⟩

theorem refDecode_runs (s : ByteArray) (w : World) (hs : s.size * 4 ≤ 140737488355328) :
    Calls Tryd.prog 41 #[.string s] w fun e w' => ∃ A c, e = .returned (.tuple #[.slice A (decRunes s.data.toList).length c, .int .i64 (decErr s.data.toList)]) ∧ Runs w' (.slice A (decRunes s.data.toList).length c) (decRunes s.data.toList) ∧ Below w.heap.size w w' := by
  refine (refDecode_any s w hs).mono ?_
  rintro e w' ⟨v, rfl, hrow, hb⟩
  have hr : Runs w' v (decRunes s.data.toList) := Runs.of_own hrow
  have hr' := hr
  obtain ⟨A, c, rfl, _⟩ := hr'
  exact ⟨A, c, rfl, hr, hb⟩

theorem letters_bad (l : List UInt8) (h : Lib.validD l = false) : lettersB l = false := by
  have hn : ¬ ∀ x ∈ items l, x ≠ -1 := fun hh => by rw [(items_valid l).1 hh] at h; cases h
  have : ∃ x ∈ items l, x = -1 := by
    apply Classical.byContradiction
    intro hc
    exact hn (fun x hx e => hc ⟨x, hx, e⟩)
  obtain ⟨x, hx, rfl⟩ := this
  unfold lettersB
  rw [Bool.and_eq_false_iff]; right
  rw [List.all_eq_false]
  exact ⟨-1, hx, by decide⟩
theorem letters_good (l : List UInt8) : lettersB l = (decide (0 < (items l).length) && (items l).all letterB) := by
  unfold lettersB
  congr 1
  cases h : l with
  | nil => rfl
  | cons a t =>
    have : (items (a :: t)).length ≠ 0 := fun e => by
      have := (items_eq_nil (a :: t)).1 (List.eq_nil_of_length_eq_zero e); cases this
    simp; omega
theorem all_take_letters (xs : List Int) (k : Nat) (h : k < xs.length) : (xs.take (k + 1)).all letterB = ((xs.take k).all letterB && letterB (xs.getD k 0)) := by
  rw [List.take_succ_eq_append_getElem h, List.all_append, List.getD_eq_getElem?_getD, List.getElem?_eq_getElem h]
  simp
theorem all_no_letters (xs : List Int) (k : Nat) (h : k < xs.length) (hv : letterB (xs.getD k 0) = false) : xs.all letterB = false := by
  rw [List.all_eq_false]
  exact ⟨xs.getD k 0, by simp [List.getD_eq_getElem?_getD, h], fun h' => by rw [hv] at h'; cases h'⟩


set_option maxRecDepth 100000 in
set_option maxHeartbeats 1000000 in
theorem refToken_any (s : ByteArray) (w : World) (hs : s.size * 4 ≤ 140737488355328) :
    Calls Tryd.prog 30 #[.string s] w fun e w' => ∃ A c, e = .returned (.tuple #[.slice A (tokRunes s.data.toList).length c, .int .i64 (tokErr s.data.toList)]) ∧ Runs w' (.slice A (tokRunes s.data.toList).length c) (tokRunes s.data.toList) ∧ Below w.heap.size w w' := by
  have c := refDecode_runs s w hs
  cases hv : Lib.validD s.data.toList
  · have e1 : decErr s.data.toList = 3 := by simp [decErr, hv]
    have e2 : decRunes s.data.toList = [] := by simp [decRunes, hv]
    have t1 : tokErr s.data.toList = 3 := by simp [tokErr, hv]
    have t2 : tokRunes s.data.toList = [] := by simp [tokRunes, t1]
    rw [e1, e2] at c
    rw [t1, t2]
    have C := Lib.hid c
    clear c e1 e2 t1 t2 hv
    go_enter Tryd.func30, Tryd.ntmps30
    go_wp2_with fail
    refine C.out.mono ?_
    rintro e w' ⟨A, c, rfl, hr, hb⟩
    go_wp2
    go_ret2
    exact ⟨none, 0, rfl, Runs.nil_ _, hb⟩
  · have e1 : decErr s.data.toList = 0 := by simp [decErr, hv]
    have e2 : decRunes s.data.toList = items s.data.toList := by simp [decRunes, hv]
    rw [e1, e2] at c
    have t1 : tokErr s.data.toList = if (items s.data.toList).length = 0 then 4 else if 64 < (items s.data.toList).length then 5 else 0 := by simp [tokErr, hv]
    have C := Lib.hid c
    clear c e1 e2
    by_cases h0 : (items s.data.toList).length = 0
    · rw [if_pos h0] at t1
      have t2 : tokRunes s.data.toList = [] := by simp [tokRunes, t1]
      rw [t1, t2]
      rw [h0] at C
      clear t1 t2 hv h0
      go_enter Tryd.func30, Tryd.ntmps30
      go_wp2_with fail
      refine C.out.mono ?_
      rintro e w' ⟨A, c, rfl, hr, hb⟩
      go_wp2
      go_ret2
      exact ⟨none, 0, rfl, Runs.nil_ _, hb⟩
    · rw [if_neg h0] at t1
      by_cases h1 : 64 < (items s.data.toList).length
      · rw [if_pos h1] at t1
        have t2 : tokRunes s.data.toList = [] := by simp [tokRunes, t1]
        rw [t1, t2]
        obtain ⟨n, hn⟩ : ∃ n, (items s.data.toList).length = n := ⟨_, rfl⟩
        rw [hn] at C h0 h1
        have h2 : ((n : Int) == 0) = false := by simp; omega
        clear t1 t2 hv hn
        go_enter Tryd.func30, Tryd.ntmps30
        go_wp2_with fail
        refine C.out.mono ?_
        rintro e w' ⟨A, c, rfl, hr, hb⟩
        go_wp2
        go_ret2
        exact ⟨none, 0, rfl, Runs.nil_ _, hb⟩
      · rw [if_neg h1] at t1
        have t2 : tokRunes s.data.toList = items s.data.toList := by simp [tokRunes, t1]
        rw [t1, t2]
        obtain ⟨n, hn⟩ : ∃ n, (items s.data.toList).length = n := ⟨_, rfl⟩
        rw [hn] at C h0 h1 ⊢
        have h2 : ((n : Int) == 0) = false := by simp; omega
        clear t1 t2 hv hn
        go_enter Tryd.func30, Tryd.ntmps30
        go_wp2_with fail
        refine C.out.mono ?_
        rintro e w' ⟨A, c, rfl, hr, hb⟩
        go_wp2
        go_ret2
        exact ⟨A, c, rfl, hr, hb⟩
end Go.Proofs.YtdlmjoijadkphaaDoor

/- Words as cells: a slice value that reads as words; rows of the call's own; parts of slices; steps of a region that draws. -/
namespace Go.Proofs.YtdlmjoijadkphaaDoor
open Go.RowKit Go.Shelf

def wrdCell (x : Wrd) : List Value := [.string x.1, .int .i64 x.2]
abbrev WRuns (w : World) (v : Value) (l : List Wrd) : Prop := GRuns wrdCell 2 w v l
theorem wrd_cells {w : World} {b o j : Nat} {x : Wrd} {l : List Wrd} (h : ∀ j x, l[j]? = some x → ∀ i u, (wrdCell x)[i]? = some u → w.cell? ⟨b, o + j * 2 + i, none⟩ = some u) (hj : l[j]? = some x) :
    w.cell? ⟨b, o + j * 2, none⟩ = some (.string x.1) ∧ w.cell? ⟨b, o + j * 2 + 1, none⟩ = some (.int .i64 x.2) :=
  ⟨h j x hj 0 _ rfl, h j x hj 1 _ rfl⟩
theorem wrd_ln (x : Wrd) : (wrdCell x).length = 2 := rfl
theorem wrd_one (x : Wrd) : ∀ u ∈ wrdCell x, u.oneCell' = true := by
  intro u hu
  simp only [wrdCell, List.mem_cons, List.mem_nil_iff, or_false] at hu
  rcases hu with rfl | rfl <;> rfl
theorem info_wrd : (Tryd.prog.info? 24).map (fun i => (i.zero, i.size, i.bytes)) = some (some (.agg #[.string ⟨#[]⟩, .int .i64 0]), 2, 24) := by kernel_rfl
theorem cells2_new (w : World) (a b : Value) (t : TypeId) : (w.alloc (.cells #[a, b] t)).cell? ⟨w.heap.size, 0, none⟩ = some a ∧ (w.alloc (.cells #[a, b] t)).cell? ⟨w.heap.size, 1, none⟩ = some b := by
  have h := heap_alloc_new w (.cells #[a, b] t)
  refine ⟨?_, ?_⟩ <;> (rw [cell_of_row _ _ _ _ _ _ h]; rfl)
theorem bel_one (D : World) (o : Obj) : Below D.heap.size D (D.alloc o) := (Below.refl _ _).alloc (Nat.le_refl _) _
theorem bel_two (D : World) (o o' : Obj) : Below D.heap.size D ((D.alloc o).alloc o') := ((Below.refl _ _).alloc (Nat.le_refl _) _).alloc (by simp) _
theorem cell_keep {w w' : World} {p : Addr} {v : Value} (h : Below w.heap.size w w') (hc : w.cell? p = some v) : w'.cell? p = some v := (h.cell (World.block_lt_of_cell? w _ hc)).trans hc
theorem own_litW (w : World) (b : Nat) (hb : b ≤ w.heap.size) : (w.alloc (.cells #[] 24)).ownsRow b 24 2 (.slice (some ⟨w.heap.size, 0, none⟩) 0 0) 0 [] :=
  ⟨by simp, .inr ⟨w.heap.size, 0, #[], rfl, hb, heap_alloc_new w _, Nat.le_refl _, by simp [maxLen], by simp, by simp⟩⟩
theorem wrd_litR (w : World) (x : Wrd) : WRuns (w.alloc (.cells #[.string x.1, .int .i64 x.2] 24)) (.slice (some ⟨w.heap.size, 0, none⟩) 1 1) [x] := by
  have e0 := heap_alloc_new w (.cells #[.string x.1, .int .i64 x.2] 24)
  refine ⟨_, 1, rfl, Nat.le_refl _, ⟨by simp [maxLen], fun h => by cases h⟩, fun _ => ⟨w.heap.size, 0, rfl, by simp, fun j z hj i u hu => ?_⟩⟩
  obtain rfl : j = 0 := by have := (List.getElem?_eq_some_iff.1 hj).1; simpa using this
  obtain rfl : x = z := by simpa using hj
  rw [cell_of_row _ _ _ _ _ (0, 0) e0]
  simpa [wrdCell] using hu
theorem wrds_lit (D : World) (L : List Wrd) (h : L.length ≤ 1000) : WRuns (D.alloc (.cells (gCells wrdCell L).toArray 24)) (.slice (some ⟨D.heap.size, 0, none⟩) L.length L.length) L := by
  refine GRuns.of_own (base := 0) (n := L.length) wrd_ln rfl ⟨gCells_len wrd_ln L, .inr ⟨D.heap.size, L.length, (gCells wrdCell L).toArray, rfl, Nat.zero_le _, heap_alloc_new D _, Nat.le_refl _, by unfold maxLen; omega, ?_, ?_⟩⟩
  · rw [List.size_toArray, gCells_len wrd_ln]
  · show (gCells wrdCell L).take (L.length * 2) = _
    rw [List.take_of_length_le (by rw [gCells_len wrd_ln]; exact Nat.le_refl _)]
theorem make_words (w : World) (c : Nat) (hc : c ≤ 2000000) : ∃ w', (Instr.makeSlice 22 (.int .i64 0) (.int .i64 (c : Int))).run Tryd.prog w = .ok (.slice (some ⟨w.heap.size, 0, none⟩) 0 c) w' ∧
    w'.ownsRow w.heap.size 24 2 (.slice (some ⟨w.heap.size, 0, none⟩) 0 c) 0 [] ∧ w.grownBy w' none := by
  obtain ⟨i0, hi, hz0, hz1, hz2⟩ := info_parts info_wrd
  exact run_make_own w w.heap.size 22 24 i0 _ 2 Tryd.underlying22 hi hz0 hz1 .i64 .i64 c (by rw [hz2]; omega) (by unfold maxLen; omega) (Nat.le_refl _)
/-- append(v, x) to a row of words of the call's own. -/
theorem append_wrd (w : World) (base : Nat) (v : Value) (n : Nat) (pre : List Wrd) (hown : w.ownsRow base 24 2 v n (gCells wrdCell pre)) (x : Wrd) (hbase : base ≤ w.heap.size) (hlen : n ≤ 2000000) :
    ∃ v' w', (Builtin.append_ #[22, 22] 22 #[v, .slice (some ⟨w.heap.size, 0, none⟩) 1 1]).run Tryd.prog (w.alloc (.cells #[.string x.1, .int .i64 x.2] 24)) = .ok v' w' ∧
      w'.ownsRow base 24 2 v' (n + 1) (gCells wrdCell (pre ++ [x])) ∧ Below base w w' := by
  obtain ⟨v', w', hrun, h2, h3, _⟩ := append_one (P := Tryd.prog) (enc := wrdCell) (k := 2) wrd_ln wrd_one info_wrd rfl (by decide) (by decide) Tryd.underlying22 w base v n _ hown x hbase (by omega)
  exact ⟨v', w', hrun, by rw [gCells_snoc]; exact h2, ((Below.refl base w).alloc hbase _).grown h3 (by simp; omega) (fun k hk => (hown.lt k hk).1)⟩
/-- Parts of a slice. -/
theorem gr_front {α : Type} {enc : α → List Value} {k : Nat} {w : World} {A : Option Addr} {n c : Nat} {l : List α} (h : GRuns enc k w (.slice A n c) l) (hn : l.length = n) (m : Nat) (hm : m ≤ n) : GRuns enc k w (.slice A m c) (l.take m) := by
  obtain ⟨A', c', e, hc, hmx, hx⟩ := h
  rw [hn] at e hc hx
  obtain ⟨rfl, _, rfl⟩ := Value.slice.inj e
  have hl : (l.take m).length = m := by rw [List.length_take]; omega
  refine ⟨A, c, by rw [hl], by rw [hl]; omega, hmx, fun h0 => ?_⟩
  rw [hl] at h0
  obtain ⟨b, o, e2, hlt, hcell⟩ := hx (by omega)
  exact ⟨b, o, e2, hlt, fun j x hj i u hu => hcell j x (by rw [List.getElem?_take] at hj; split at hj; exact hj; cases hj) i u hu⟩
theorem gr_none {α : Type} {enc : α → List Value} {k : Nat} {w : World} {A : Option Addr} {c : Nat} (hc : c ≤ maxLen) (hA : A = none → c = 0) : GRuns enc k w (.slice A 0 c) [] := ⟨A, c, rfl, Nat.zero_le _, ⟨hc, hA⟩, fun h => absurd h (by simp)⟩
theorem gr_back {α : Type} {enc : α → List Value} {k : Nat} {w : World} {b o n c : Nat} {l : List α} (h : GRuns enc k w (.slice (some ⟨b, o, none⟩) n c) l) (hn : l.length = n) (m : Nat) (hm : m ≤ n) : GRuns enc k w (.slice (some ⟨b, o + m * k, none⟩) (n - m) (c - m)) (l.drop m) := by
  obtain ⟨A', c', e, hc, ⟨hmx, _⟩, hx⟩ := h
  rw [hn] at e hc hx
  obtain ⟨e1, _, rfl⟩ := Value.slice.inj e
  have hl : (l.drop m).length = n - m := by rw [List.length_drop]; omega
  refine ⟨some ⟨b, o + m * k, none⟩, c - m, by rw [hl], by rw [hl]; omega, ⟨by omega, fun h => by cases h⟩, fun h0 => ?_⟩
  obtain ⟨b', o', e2, hlt, hcell⟩ := hx (by omega)
  have e3 := Option.some.inj (e1.trans e2)
  simp only [Addr.mk.injEq] at e3
  obtain ⟨rfl, rfl, _⟩ := e3
  refine ⟨b, o + m * k, rfl, hlt, fun j x hj i u hu => ?_⟩
  have := hcell (m + j) x (by rwa [List.getElem?_drop] at hj) i u hu
  rwa [show o + (m + j) * k + i = o + m * k + j * k + i by rw [Nat.add_mul]; omega] at this
theorem gr_cap {α : Type} {enc : α → List Value} {k : Nat} {w : World} {A : Option Addr} {n c : Nat} {l : List α} (h : GRuns enc k w (.slice A n c) l) : n ≤ c ∧ c ≤ maxLen ∧ (A = none → c = 0) := by
  obtain ⟨A', c', e, hc, ⟨hmx, h0⟩, _⟩ := h
  obtain ⟨rfl, rfl, rfl⟩ := Value.slice.inj e
  exact ⟨hc, hmx, h0⟩
/-- A row that is kept where another block is turned. -/
theorem gr_aside {α : Type} {enc : α → List Value} {k : Nat} {w w' : World} {b o n c : Nat} {l : List α} {row : Option Nat} (h : GRuns enc k w (.slice (some ⟨b, o, none⟩) n c) l) (hg : w.grownBy w' row) (hne : some b ≠ row) : GRuns enc k w' (.slice (some ⟨b, o, none⟩) n c) l := by
  obtain ⟨A, c', e, hc, hm, hx⟩ := h
  refine ⟨A, c', e, hc, hm, fun h0 => ?_⟩
  obtain ⟨b', o', e2, hlt, hcell⟩ := hx h0
  obtain ⟨e1, _, _⟩ := Value.slice.inj e
  have e3 := Option.some.inj (e1.trans e2)
  simp only [Addr.mk.injEq] at e3
  obtain ⟨rfl, rfl, _⟩ := e3
  exact ⟨b, o, e2, Nat.lt_of_lt_of_le hlt hg.size, fun j x hj i u hu => (World.cell?_of_block (hg.block b hlt hne)).trans (hcell j x hj i u hu)⟩
/-- A call of a Go function of one argument, as one step of a region that draws its order. -/
theorem xstep_call {P : Program} {ops : Array Oper} {o : Oper} {a : Act} {w : World} {K : Act → World → Prop} {Q : Exit → Act → World → Prop} {E : Prop} (hgd : o.guard = none) (f : Nat) (x : Operand) (t : TypeId) (hop : o.op = .call { callee := .value (.func f), args := #[x], argTypes := #[t] })
    (eg : ∀ args w, (callFunc f args).run P w = .ok (.enter f args) w) {u : Value} (hx : a.eval x = u) {Post : Ending → World → Prop} (hc : Calls P f #[u] w Post) (h : ∀ e w', Post e w' → ∃ v, e = .returned v ∧ K (a.put o.dst v) w') :
    if Region.wanted o (yielded ops a.tmps) = true then Oper.wp P o a w K Q else E := by
  have hw : Region.wanted o (yielded ops a.tmps) = true := by simp [Region.wanted, hgd]
  rw [if_pos hw]
  unfold Oper.wp
  have he : (execOp a.eval o).run P w = .ok (.enter f #[u]) w := by
    have hf : a.eval (.func f) = .func (.func f) #[] #[] := rfl
    simp [execOp, hop, resolve, invoke, Deferred.ofValue, hf, hx, eg, Result.andThen]
  rw [he, Oper.upon_enter]
  refine hc.mono ?_
  intro e w' hp
  obtain ⟨v, rfl, hk⟩ := h e w' hp
  exact hk
/-- Of two arguments. -/
theorem xstep_call2 {P : Program} {ops : Array Oper} {o : Oper} {a : Act} {w : World} {K : Act → World → Prop} {Q : Exit → Act → World → Prop} {E : Prop} (hgd : o.guard = none) (f : Nat) (x y : Operand) (t t' : TypeId) (hop : o.op = .call { callee := .value (.func f), args := #[x, y], argTypes := #[t, t'] })
    (eg : ∀ args w, (callFunc f args).run P w = .ok (.enter f args) w) {u u' : Value} (hx : a.eval x = u) (hy : a.eval y = u') {Post : Ending → World → Prop} (hc : Calls P f #[u, u'] w Post) (h : ∀ e w', Post e w' → ∃ v, e = .returned v ∧ K (a.put o.dst v) w') :
    if Region.wanted o (yielded ops a.tmps) = true then Oper.wp P o a w K Q else E := by
  have hw : Region.wanted o (yielded ops a.tmps) = true := by simp [Region.wanted, hgd]
  rw [if_pos hw]
  unfold Oper.wp
  have he : (execOp a.eval o).run P w = .ok (.enter f #[u, u']) w := by
    have hf : a.eval (.func f) = .func (.func f) #[] #[] := rfl
    simp [execOp, hop, resolve, invoke, Deferred.ofValue, hf, hx, hy, eg, Result.andThen]
  rw [he, Oper.upon_enter]
  refine hc.mono ?_
  intro e w' hp
  obtain ⟨v, rfl, hk⟩ := h e w' hp
  exact hk
theorem xstep_append {P : Program} {ops : Array Oper} {o : Oper} {a : Act} {w : World} {K : Act → World → Prop} {Q : Exit → Act → World → Prop} {E : Prop} (hgd : o.guard = none) (s x : Operand) (t : TypeId) (v u v' : Value) (w' : World)
    (ho : o.op = .call { callee := .builtin .append, args := #[s, x], argTypes := #[t, t] }) (hrun : (Builtin.append_ #[t, t] o.type #[v, u]).run P w = .ok v' w') (hs : a.eval s = v) (hx : a.eval x = u)
    (h : K (a.put o.dst v') w') : if Region.wanted o (yielded ops a.tmps) = true then Oper.wp P o a w K Q else E := by
  have hw : Region.wanted o (yielded ops a.tmps) = true := by simp [Region.wanted, hgd]
  rw [if_pos hw]
  unfold Oper.wp
  simp [execOp, ho, resolve, invoke, builtin, hs, hx, hrun, Result.andThen]
  exact h
/-- An append of words onto an owned row, as one step of such a region. -/
theorem xstep_words {ops : Array Oper} {o : Oper} {a : Act} {w : World} {K : Act → World → Prop} {Q : Exit → Act → World → Prop} {E : Prop} (hgd : o.guard = none) (s x : Operand) (base n : Nat) (xs : List Value) (ys : List Wrd) {v u : Value}
    (hown : w.ownsRow base 24 2 v n xs) (hu : WRuns w u ys) (ho : o.op = .call { callee := .builtin .append, args := #[s, x], argTypes := #[22, 22] }) (hty : o.type = 22) (hs : a.eval s = v) (hx : a.eval x = u)
    (hbase : base ≤ w.heap.size) (hlen : (n + ys.length) * 24 ≤ 140737488355328)
    (h : ∀ v' w', w'.ownsRow base 24 2 v' (n + ys.length) (xs ++ gCells wrdCell ys) → w.grownBy w' v.ownBlock → (v'.ownBlock = v.ownBlock ∨ v'.ownBlock = some w.heap.size) → K (a.put o.dst v') w') : if Region.wanted o (yielded ops a.tmps) = true then Oper.wp Tryd.prog o a w K Q else E := by
  obtain ⟨v', w', hrun, h2, h3, h4⟩ := append_many (P := Tryd.prog) wrd_ln wrd_one info_wrd rfl (by decide) (by decide) Tryd.underlying22 w base v n xs hown u ys hu hbase hlen
  exact xstep_append hgd s x _ v u v' w' ho (by rw [hty]; exact hrun) hs hx (h v' w' h2 h3 h4)
end Go.Proofs.YtdlmjoijadkphaaDoor

