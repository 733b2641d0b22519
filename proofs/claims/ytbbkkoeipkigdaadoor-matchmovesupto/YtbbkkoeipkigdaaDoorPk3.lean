/- Texts that several proofs of this seat share, one behind the other: RefSmall RefFirst Alive Cmp Join Write Encode Back Tokens RefDecode. -/
import Derived.Test.YtbbkkoeipkigdaaDoorPk2
import Derived.IntWalk
import Derived.BigRegion
import Derived.Deep.RegionWith
import Derived.Laws.IdiomStrings
import Derived.Test.YtbbkkoeipkigdaaDoorPk1
import Derived.Test.YtbbkkoeipkigdaaDoorProg
import Derived.OwnWalk
import Derived.Maps.AppendAt
import Derived.Shelf.Strings.BuilderRune
import Derived.Lib.RuneCount
import Derived.Lib.RuneCountTail
import Derived.OpenShut
/- The document's answers for one number: IsRune, Letter, a rune's bytes. -/
namespace Go.Proofs.YtbbkkoeipkigdaaDoor
open Go.RowKit Go.Shelf

theorem rune_cases (r : Int) : r < 0 ∨ (0 ≤ r ∧ r ≤ 55295) ∨ (55296 ≤ r ∧ r ≤ 57343) ∨ (57344 ≤ r ∧ r ≤ 1114111) ∨ 1114112 ≤ r := by omega
theorem vr_no (r : Int) (h : r < 0 ∨ (55296 ≤ r ∧ r ≤ 57343) ∨ 1114112 ≤ r) : Lib.validRune r = false := by
  unfold Lib.validRune; simp only [decide_eq_false_iff_not]; omega
theorem vr_yes (r : Int) (h : (0 ≤ r ∧ r ≤ 55295) ∨ (57344 ≤ r ∧ r ≤ 1114111)) : Lib.validRune r = true := by
  unfold Lib.validRune; simp only [decide_eq_true_eq]; omega

set_option maxRecDepth 100000 in
set_option maxHeartbeats 1000000 in
theorem isRune_any (r : Int) (w : World) : Calls Tryd.prog 71 #[.int .i32 r] w fun e w' => e = .returned (.bool (Lib.validRune r)) ∧ w = w' := by
  rcases rune_cases r with h | ⟨h1, h2⟩ | ⟨h1, h2⟩ | ⟨h1, h2⟩ | h
  · have d1 : decide (0 ≤ r) = false := by simp; omega
    go_enter Tryd.func71, Tryd.ntmps71
    go_wp2
    go_ret
    exact ⟨ret_bool (by rw [vr_no _ (by omega)]), rfl⟩
  · have d2 : decide (55296 ≤ r) = false := by simp; omega
    go_enter Tryd.func71, Tryd.ntmps71
    go_wp2
    go_ret
    exact ⟨ret_bool (by rw [vr_yes _ (by omega)]), rfl⟩
  · have h0 : 0 ≤ r := by omega
    have h3 : r ≤ 1114111 := by omega
    go_enter Tryd.func71, Tryd.ntmps71
    go_wp2
    go_ret
    exact ⟨ret_bool (by rw [vr_no _ (by omega)]), rfl⟩
  · have h0 : 0 ≤ r := by omega
    have h3 : 55296 ≤ r := by omega
    have d2 : decide (r ≤ 57343) = false := by simp; omega
    go_enter Tryd.func71, Tryd.ntmps71
    go_wp2
    go_ret
    exact ⟨ret_bool (by rw [vr_yes _ (by omega)]), rfl⟩
  · have h0 : 0 ≤ r := by omega
    have d1 : decide (r ≤ 1114111) = false := by simp; omega
    go_enter Tryd.func71, Tryd.ntmps71
    go_wp2
    go_ret
    exact ⟨ret_bool (by rw [vr_no _ (by omega)]), rfl⟩

theorem cells_enc (r : Int) : (Lib.byteCells (Lib.encodeRune r)) = Lib.runeCells r := Lib.byteCells_encodeRune r

set_option maxRecDepth 100000 in
set_option maxHeartbeats 1000000 in
theorem bytes_any (r : Int) (w : World) (h : Lib.validRune r = true) :
    Calls Tryd.prog 72 #[.int .i32 r] w fun e w' => e = .returned (.slice (some ⟨w.heap.size, 0, none⟩) (Lib.encodeRune r).length (Lib.encodeRune r).length) ∧ w' = w.alloc (.cells (Lib.byteCells (Lib.encodeRune r)).toArray 5) := by
  have hv := rune_bd h
  rw [cells_enc]
  unfold Lib.runeCells Lib.encodeRune
  by_cases a : r ≤ 127
  · have a0 : 0 ≤ r := by omega
    rw [Lib.encodeRuneZ_one (by omega) (by omega)]
    go_enter Tryd.func72, Tryd.ntmps72
    go_wp2
    go_ret
    exact ⟨rfl, rfl⟩
  · by_cases b : r ≤ 2047
    · have a0 : 128 ≤ r := by omega
      rw [Lib.encodeRuneZ_two (by omega) (by omega)]
      go_enter Tryd.func72, Tryd.ntmps72
      go_wp2
      go_ret
      exact ⟨rfl, rfl⟩
    · by_cases c : r ≤ 65535
      · have a0 : 2048 ≤ r := by omega
        rw [Lib.encodeRuneZ_three (by omega)]
        go_enter Tryd.func72, Tryd.ntmps72
        go_wp2
        go_ret
        exact ⟨rfl, rfl⟩
      · have a0 : 65536 ≤ r := by omega
        have a1 : r ≤ 1114111 := by omega
        rw [Lib.encodeRuneZ_four (by omega) (by omega)]
        go_enter Tryd.func72, Tryd.ntmps72
        go_wp2
        go_ret
        exact ⟨rfl, rfl⟩

theorem letter_cases2 (r : Int) : r < 65 ∨ (65 ≤ r ∧ r ≤ 90) ∨ (91 ≤ r ∧ r ≤ 96) ∨ (97 ≤ r ∧ r ≤ 122) ∨ (123 ≤ r ∧ r ≤ 191) ∨ (215 ≤ r ∧ r ≤ 215) ∨ (247 ≤ r ∧ r ≤ 247) ∨ (8192 ≤ r ∧ r ≤ 8303) ∨ (192 ≤ r ∧ r ≤ 214) ∨ (216 ≤ r ∧ r ≤ 246) ∨ (248 ≤ r ∧ r ≤ 8191) ∨ 8304 ≤ r := by omega
end Go.Proofs.YtbbkkoeipkigdaaDoor

/- errataref01.first: the rune that some bytes begin with, as the decoder tells it. -/
namespace Go.Proofs.YtbbkkoeipkigdaaDoor
open Go.RowKit Go.Shelf Go.Lib

/-- What the document reckons of the first n bytes. -/
def partR (l : List UInt8) (n : Nat) : Nat → Int
  | 0 => ((l.getD 0 0).toNat : Int) - (if n = 2 then 192 else if n = 3 then 224 else if n = 4 then 240 else 0)
  | k + 1 => partR l n k * 64 + ((l.getD (k + 1) 0).toNat : Int) - 128
def candR (l : List UInt8) (n : Nat) : Int := partR l n (n - 1)
def testR (l : List UInt8) (n : Nat) : Bool := Lib.validRune (candR l n) && decide (encodeRune (candR l n) = l.take n)

theorem byte_lt (b : UInt8) : b.toNat < 256 := b.toNat_lt
theorem cand1 (l : List UInt8) : candR l 1 = ((l.getD 0 0).toNat : Int) := by simp [candR, partR]
theorem cand2 (l : List UInt8) : candR l 2 = (((l.getD 0 0).toNat : Int) - 192) * 64 + ((l.getD 1 0).toNat : Int) - 128 := by simp [candR, partR]
theorem cand3 (l : List UInt8) : candR l 3 = ((((l.getD 0 0).toNat : Int) - 224) * 64 + ((l.getD 1 0).toNat : Int) - 128) * 64 + ((l.getD 2 0).toNat : Int) - 128 := by simp [candR, partR]
theorem cand4 (l : List UInt8) : candR l 4 = (((((l.getD 0 0).toNat : Int) - 240) * 64 + ((l.getD 1 0).toNat : Int) - 128) * 64 + ((l.getD 2 0).toNat : Int) - 128) * 64 + ((l.getD 3 0).toNat : Int) - 128 := by simp [candR, partR]

/-- A test that stands tells the rune. -/
theorem test_decode (l : List UInt8) (n : Nat) (hn : n ≤ l.length) (h : testR l n = true) : badB l = false ∧ decodeL l = ((candR l n).toNat, n) ∧ 0 ≤ candR l n := by
  unfold testR at h
  rw [Bool.and_eq_true, decide_eq_true_eq] at h
  obtain ⟨hv, he⟩ := h
  have hl : l = encodeRune (candR l n) ++ l.drop n := by rw [he, List.take_append_drop]
  have hlen : (encodeRune (candR l n)).length = n := by rw [he, List.length_take]; omega
  have hd := decode_encode (candR l n) (l.drop n) hv
  have hb := not_bad_enc (candR l n) (l.drop n) hv
  rw [← hl] at hd hb
  rw [hlen] at hd
  exact ⟨hb, hd, valid_nonneg hv⟩
/-- The rune that the bytes begin with stands its test. -/
theorem decode_test (l : List UInt8) (hne : l ≠ []) (hb : badB l = false) : testR l (decodeL l).2 = true ∧ candR l (decodeL l).2 = ((decodeL l).1 : Int) ∧ 1 ≤ (decodeL l).2 ∧ (decodeL l).2 ≤ 4 ∧ (decodeL l).2 ≤ l.length := by
  obtain ⟨r, t, hr, rfl⟩ := good_form l hne hb
  rw [decode_encode r t hr]
  have hlen := encodeRune_len r
  have h0 := valid_nonneg hr
  have hc : candR (encodeRune r ++ t) (encodeRune r).length = r := by
    obtain ⟨n, rfl, ⟨h1, e⟩ | ⟨h1, h2, e⟩ | ⟨h1, h2, e⟩ | ⟨h1, h2, e⟩⟩ := enc_forms r hr
    · rw [e]; simp only [List.length_cons, List.length_nil, Nat.reduceAdd]; rw [cand1]
      simp only [List.cons_append, List.getD_cons_zero]; rw [u8n _ (by omega)]
    · rw [e]; simp only [List.length_cons, List.length_nil, Nat.reduceAdd]; rw [cand2]
      simp only [List.cons_append, List.getD_cons_zero, List.getD_cons_succ]; rw [u8n _ (by omega), u8n _ (by omega)]; omega
    · rw [e]; simp only [List.length_cons, List.length_nil, Nat.reduceAdd]; rw [cand3]
      simp only [List.cons_append, List.getD_cons_zero, List.getD_cons_succ]; rw [u8n _ (by omega), u8n _ (by omega), u8n _ (by omega)]; omega
    · rw [e]; simp only [List.length_cons, List.length_nil, Nat.reduceAdd]; rw [cand4]
      simp only [List.cons_append, List.getD_cons_zero, List.getD_cons_succ]; rw [u8n _ (by omega), u8n _ (by omega), u8n _ (by omega), u8n _ (by omega)]; omega
  refine ⟨?_, ?_, hlen.1, hlen.2, by simp⟩
  · unfold testR; rw [hc, hr]; simp
  · simp only; rw [hc]; omega

/-- The answer: the rune and how many bytes it has; nothing of bytes that begin with none. -/
def firstR (l : List UInt8) : Int := if badB l then 0 else (decodeL l).1
def firstN (l : List UInt8) : Nat := if badB l then 0 else (decodeL l).2

theorem first_none (l : List UInt8) (hne : 0 < l.length) (h : ∀ j, 1 ≤ j → j ≤ 4 → j ≤ l.length → testR l j = false) : firstR l = 0 ∧ firstN l = 0 := by
  have hb : badB l = true := by
    cases hb : badB l with
    | true => rfl
    | false =>
      obtain ⟨h1, _, h2, h3, h4⟩ := decode_test l (List.length_pos_iff.1 hne) hb
      rw [h _ h2 h3 h4] at h1; cases h1
  simp [firstR, firstN, hb]
theorem part_bd (l : List UInt8) (n k : Nat) (hk : k ≤ 2) : -1000000 ≤ partR l n k ∧ partR l n k ≤ 1060000 := by
  have b0 := byte_lt (l.getD 0 0)
  have b1 := byte_lt (l.getD 1 0)
  have b2 := byte_lt (l.getD 2 0)
  have h0 : -240 ≤ partR l n 0 ∧ partR l n 0 ≤ 255 := by simp only [partR]; split <;> (try split) <;> (try split) <;> omega
  have : k = 0 ∨ k = 1 ∨ k = 2 := by omega
  rcases this with rfl | rfl | rfl
  · omega
  · simp only [partR, Nat.zero_add] at h0 ⊢; omega
  · simp only [partR, Nat.zero_add, Nat.reduceAdd] at h0 ⊢; omega
theorem byte_at (s : ByteArray) (k : Nat) (h : k < s.size) : s[k] = s.data.toList.getD k 0 := by
  rw [List.getD_eq_getElem?_getD, List.getElem?_eq_getElem (by rw [← Lib.size_eq]; exact h)]
  rfl

theorem test_next {l : List UInt8} {n : Nat} (h : ∀ j, 1 ≤ j → j < n → testR l j = false) (hn : testR l n = false) : ∀ j, 1 ≤ j → j < n + 1 → testR l j = false := by
  intro j h1 h2
  by_cases e : j = n
  · rw [e]; exact hn
  · exact h j h1 (by omega)
/-- A rune's bytes, and these as a string, each under one name. -/
theorem bytes_conv (r : Int) (h : Lib.validRune r = true) : ∃ (E : ByteArray) (O : Obj) (k : Nat),
    (∀ w : World, Calls Tryd.prog 72 #[.int .i32 r] w fun e w' => e = .returned (.slice (some ⟨w.heap.size, 0, none⟩) k k) ∧ w' = w.alloc O) ∧
    (∀ w : World, (convert 88 9 (.slice (some ⟨w.heap.size, 0, none⟩) k k)).run Tryd.prog (w.alloc O) = .ok (.string E) (w.alloc O) ∧
      (convert 88 9 (.slice (some ⟨w.heap.size, 0, none⟩) k k)).run Tryd.prog (w.alloc O).drew = .ok (.string E) (w.alloc O).drew) ∧
    Hid (E.data.toList = encodeRune r) := by
  refine ⟨⟨(encodeRune r).toArray⟩, _, _, fun w => bytes_any r w h, fun w => ?_, Lib.hid (by simp)⟩
  have hc : ∀ (w' : World), (∀ a, w'.cell? a = (w.alloc (.cells (byteCells (encodeRune r)).toArray 5)).cell? a) → ∀ j (hj : j < (encodeRune r).length), w'.cell? ((⟨w.heap.size, 0, none⟩ : Addr).add j) = some (.int .u8 ((encodeRune r)[j].toNat : Int)) := by
    intro w' hw j hj
    have e : ((⟨w.heap.size, 0, none⟩ : Addr).add j) = ⟨w.heap.size, 0 + j, none⟩ := by
      unfold Addr.add
      by_cases h : j = 0
      · subst h; rfl
      · simp [h]
    rw [hw, e, cell_of_row _ _ _ _ _ _ (heap_alloc_new w _)]
    simp [byteCells, hj]
  exact ⟨run_convert_bytes_back (P := Tryd.prog) _ 88 9 5 _ _ _ Tryd.underlying88 Tryd.underlying5 Tryd.underlying9 (hc _ (fun _ => rfl)),
    run_convert_bytes_back (P := Tryd.prog) _ 88 9 5 _ _ _ Tryd.underlying88 Tryd.underlying5 Tryd.underlying9 (hc _ (fun _ => rfl))⟩

set_option maxRecDepth 100000 in
set_option maxHeartbeats 4000000 in
theorem first_any (s : ByteArray) (w : World) (hs : s.size ≤ maxLen) (hpos : 0 < s.size) :
    Calls Tryd.prog 54 #[.string s] w fun e w' => e = .returned (.tuple #[.int .i32 (firstR s.data.toList), .int .i64 (firstN s.data.toList)]) ∧ Below w.heap.size w w' := by
  unfold maxLen at hs
  obtain ⟨R, hR⟩ : ∃ R, firstR s.data.toList = R := ⟨_, rfl⟩
  obtain ⟨K, hK⟩ : ∃ K, firstN s.data.toList = K := ⟨_, rfl⟩
  rw [hR, hK]
  have HR := Lib.hid hR; clear hR
  have HK := Lib.hid hK; clear hK
  go_enter Tryd.func54, Tryd.ntmps54
  go_wp2
  go_loopw [4] (fun s4 wr => ∃ n : Nat, s4 = .int .i64 n ∧ 1 ≤ n ∧ n ≤ 5 ∧ n ≤ s.size + 1 ∧ Below w.heap.size w wr ∧ Hid (∀ j, 1 ≤ j → j < n → testR s.data.toList j = false)) (fun s4 _ => 5 - (RowKit.intOf s4).toNat)
  case atStart => exact ⟨1, rfl, by omega, by omega, by omega, Below.refl _ _, Lib.hid (fun j h1 h2 => by omega)⟩
  case round =>
    obtain ⟨n, rfl, hn1, hn5, hns, hB, HT⟩ := hrel
    obtain ⟨W1, rfl⟩ : ∃ W1, W1 = wr := ⟨wr, rfl⟩
    by_cases h4 : n ≤ 4
    · by_cases hsz : n ≤ s.size
      · have hx0 := byte_at s 0 (by omega)
        obtain ⟨x0, hx⟩ : ∃ x0, s.data.toList.getD 0 0 = x0 := ⟨_, rfl⟩
        rw [hx] at hx0
        have HX := Lib.hid hx; clear hx
        have hb0 := byte_lt x0
        have i0 : (0 : Int) < (s.size : Int) := by omega
        have h0p : partR s.data.toList n 0 = (x0.toNat : Int) - (if n = 2 then 192 else if n = 3 then 224 else if n = 4 then 240 else 0) := by simp only [partR, HX.out]
        have : n = 1 ∨ n = 2 ∨ n = 3 ∨ n = 4 := by omega
        have q1 : decide ((n : Int) ≤ 4) = true := by simp; omega
        have q2 : decide ((n : Int) ≤ (s.size : Int)) = true := by simp; omega
        have hcan : candR s.data.toList n = partR s.data.toList n (n - 1) := rfl
        rcases this with e | e | e | e
        all_goals
          simp only [e, Nat.reduceEqDiff, if_true, if_false] at h0p
        all_goals rw [← e] at h0p
        all_goals
          have H0 := Lib.hid h0p
          clear h0p
          (try have t2 : ((n : Int) == 2) = true := by simp; omega)
          (try have f2 : ((n : Int) == 2) = false := by simp; omega)
          (try have t3 : ((n : Int) == 3) = true := by simp; omega)
          (try have f3 : ((n : Int) == 3) = false := by simp; omega)
          (try have t4 : ((n : Int) == 4) = true := by simp; omega)
          (try have f4 : ((n : Int) == 4) = false := by simp; omega)
          have HE := Lib.hid e
          clear e
          go_wp2
        all_goals
          go_loopw [5, 6] (fun s5 s6 wr2 => ∃ (i : Nat) (p : Int), s6 = .int .i64 i ∧ s5 = .int .i32 p ∧ 1 ≤ i ∧ i ≤ n ∧ W1 = wr2 ∧ Hid (partR s.data.toList n (i - 1) = p)) (fun _ s6 _ => n - (RowKit.intOf s6).toNat)
          case atStart => exact ⟨1, _, rfl, rfl, by omega, by omega, rfl, Lib.hid (by rw [H0.out]; try omega)⟩
          case round =>
            obtain ⟨i, p, rfl, rfl, hi1, hi2, rfl, HP⟩ := hrel
            by_cases hlt : i < n
            · have hbp := part_bd s.data.toList n (i - 1) (by omega)
              rw [HP.out] at hbp
              have hxi := byte_at s i (by omega)
              obtain ⟨xi, hx⟩ : ∃ xi, s.data.toList.getD i 0 = xi := ⟨_, rfl⟩
              rw [hx] at hxi
              have hbi := byte_lt xi
              have hnext : partR s.data.toList n (i - 1 + 1) = p * 64 + (xi.toNat : Int) - 128 := by simp only [partR]; rw [HP.out, show i - 1 + 1 = i by omega, hx]
              rw [show i - 1 + 1 = i + 1 - 1 by omega] at hnext
              have HN := Lib.hid hnext
              clear hx hnext
              have j1 : (i : Int) < (s.size : Int) := by omega
              obtain ⟨p1, p2⟩ := hbp
              go_wp2
              go_roundw
              case rel => exact ⟨i + 1, _, by go_num, rfl, by omega, by omega, by first | rfl | trivial, Lib.hid (by rw [HN.out])⟩
              case measure => simp [RowKit.intOf]; omega
            · obtain rfl : n = i := by omega
              go_wp2
              clear hx0 hb0 H0 i0
              (try clear t2); (try clear f2); (try clear t3); (try clear f3); (try clear t4); (try clear f4)
              cases hv : Lib.validRune p
              · have c1 := isRune_any p
                rw [hv] at c1
                have C1 := Lib.hid c1
                have HV := Lib.hid hv
                clear c1 hv
                go_quiet ((go_at_call 71; exact Calls.quiet_of_same ((C1.out _).mono fun e w' h => ⟨h.1, h.2.symm⟩)))
                go_wp2
                go_roundw
                case rel => exact ⟨n + 1, by go_num, by omega, by omega, by omega, below_draws hB _, Lib.hid (test_next HT.out (by unfold testR; rw [hcan, HP.out, HV.out]; rfl))⟩
                case measure => simp [RowKit.intOf]; omega
              · have c1 := isRune_any p
                rw [hv] at c1
                have C1 := Lib.hid c1
                have HV := Lib.hid hv
                clear c1 hv
                obtain ⟨E, O, k, c2, hcv, hE⟩ := bytes_conv p HV.out
                have C2 := Lib.hid c2
                clear c2
                have hcv1 := (hcv W1).1
                have hcv2 := (hcv W1).2
                clear hcv
                go_region_with (first | (go_at_call 71; refine (C1.out _).mono ?_; rintro e w' ⟨rfl, rfl⟩) | (go_at_call 72; refine (C2.out _).mono ?_; rintro e w' ⟨rfl, rfl⟩))
                clear hcv1 hcv2 C1 C2
                have hlt : (s.extract 0 n).toList = s.data.toList.take n := by rw [Lib.toList_data, Lib.extract_data]; simp
                have HL := Lib.hid hlt
                clear hlt
                have hB2 : Below w.heap.size w (W1.alloc O).drew := (hB.alloc hB.size _).drew
                have hEt := Lib.toList_data E
                have HE2 := Lib.hid hEt
                clear hEt
                cases hq : (E.toList == (s.extract 0 n).toList)
                · have HQ := Lib.hid hq
                  go_wp2
                  go_roundw
                  case rel =>
                    refine ⟨n + 1, by go_num, by omega, by omega, by omega, hB2, Lib.hid (test_next HT.out ?_)⟩
                    have h1 := HQ.out
                    rw [HE2.out, hE.out, HL.out] at h1
                    have h2 : ¬ Lib.encodeRune p = s.data.toList.take n := by simpa using h1
                    unfold testR
                    rw [hcan, HP.out, HV.out]
                    simp [h2]
                  case measure => simp [RowKit.intOf]; omega
                · have HQ := Lib.hid hq
                  go_wp2
                  go_ret2
                  have h1 := HQ.out
                  rw [HE2.out, hE.out, HL.out] at h1
                  have h2 : Lib.encodeRune p = s.data.toList.take n := by simpa using h1
                  have ht : testR s.data.toList n = true := by
                    unfold testR
                    rw [hcan, HP.out, HV.out]
                    simp [h2]
                  obtain ⟨g1, g2, g3⟩ := test_decode s.data.toList n (by rw [← Lib.size_eq]; exact hsz) ht
                  rw [hcan, HP.out] at g2 g3
                  have r1 : R = p := by rw [← HR.out]; unfold firstR; rw [g1, g2]; simp; omega
                  have r2 : K = n := by rw [← HK.out]; unfold firstN; rw [g1, g2]; simp
                  exact ⟨by rw [r1, r2]; rfl, hB2⟩
      · have q1 : decide ((n : Int) ≤ 4) = true := by simp; omega
        have q2 : decide ((n : Int) ≤ (s.size : Int)) = false := by simp; omega
        obtain ⟨r1, r2⟩ := first_none s.data.toList (by rw [← Lib.size_eq]; exact hpos) (fun j a b c => HT.out j a (by rw [← Lib.size_eq] at c; omega))
        go_wp2
        go_ret2
        exact ⟨by rw [← HR.out, ← HK.out, r1, r2]; rfl, hB⟩
    · have q1 : decide ((n : Int) ≤ 4) = false := by simp; omega
      obtain ⟨r1, r2⟩ := first_none s.data.toList (by rw [← Lib.size_eq]; exact hpos) (fun j a b c => HT.out j a (by omega))
      go_wp2
      go_ret2
      exact ⟨by rw [← HR.out, ← HK.out, r1, r2]; rfl, hB⟩
end Go.Proofs.YtbbkkoeipkigdaaDoor

/- The document's examples of layer 1 stand. -/
namespace Go.Proofs.YtbbkkoeipkigdaaDoor
open Go.RowKit Go.Shelf

/-- The world holds the two tables, as old blocks. -/
def Okw (w : World) : Prop := Tabs w ∧ 0 < w.heap.size ∧ 1 < w.heap.size
theorem Okw.below {w w' : World} (h : Okw w) (hb : Below w.heap.size w w') : Okw w' := ⟨h.1.below hb, Nat.lt_of_lt_of_le h.2.1 hb.size, Nat.lt_of_lt_of_le h.2.2 hb.size⟩

end Go.Proofs.YtbbkkoeipkigdaaDoor

/- The order of two lists of runes, as errataref01.Compare and Same tell it. -/
namespace Go.Proofs.YtbbkkoeipkigdaaDoor
open Go.RowKit

set_option maxRecDepth 100000 in
set_option maxHeartbeats 1000000 in
theorem refCompare_any (u v : Value) (x y : List Int) (w : World) (hx : Runs w u x) (hy : Runs w v y) :
    Calls Tryd.prog 74 #[u, v] w fun e w' => e = .returned (.int .i64 (cmpL x y)) ∧ Drawn w w' := by
  obtain ⟨A, c, rfl, hxc, ⟨hxm, _⟩, hxx⟩ := hx
  obtain ⟨B, d, rfl, hyc, ⟨hym, _⟩, hyy⟩ := hy
  unfold maxLen at hxm hym
  obtain ⟨n, hn⟩ : ∃ n, x.length = n := ⟨_, rfl⟩
  obtain ⟨m, hm⟩ : ∃ m, y.length = m := ⟨_, rfl⟩
  rw [hn] at hxc hxx ⊢
  rw [hm] at hyc hyy ⊢
  have Hn := Lib.hid hn; clear hn
  have Hm := Lib.hid hm; clear hm
  have HX := Lib.hid hxx; clear hxx
  have HY := Lib.hid hyy; clear hyy
  go_enter Tryd.func74, Tryd.ntmps74
  go_wp2
  go_loopg [5] n (fun g s5 wr => ∃ k q : Nat, k ≤ n ∧ k ≤ m ∧ n - k ≤ g ∧ s5 = .int .i64 k ∧ wr = w.drewN q ∧ Hid (cmpL x y = cmpL (x.drop k) (y.drop k)))
  case atStart => exact ⟨0, 0, Nat.zero_le _, Nat.zero_le _, by omega, rfl, rfl, Lib.hid (by simp)⟩
  case round =>
    obtain ⟨k, q, hkn, hkm, hg, rfl, rfl, HC⟩ := hrel
    by_cases h1 : k < n
    · by_cases h2 : k < m
      · obtain ⟨b, o, rfl, hb, hc1⟩ := HX.out (by omega)
        obtain ⟨b', o', rfl, hb', hc2⟩ := HY.out (by omega)
        have e1 := hc1 k h1
        have e2 := hc2 k h2
        clear hc1 hc2
        obtain ⟨p, hp⟩ : ∃ p, x.getD k 0 = p := ⟨_, rfl⟩
        obtain ⟨r, hr⟩ : ∃ r, y.getD k 0 = r := ⟨_, rfl⟩
        have HC2 := Lib.hid (HC.out.trans (cmpL_drop (by rw [Hn.out]; exact h1) (by rw [Hm.out]; exact h2)))
        rw [hp, hr] at HC2
        rw [hp] at e1
        rw [hr] at e2
        clear hp hr
        have i1 : (k : Int) < (n : Int) := by omega
        have i2 : (k : Int) < (m : Int) := by omega
        by_cases l1 : p < r
        · go_wp2
          go_quiet (fail)
          go_wp2
          go_ret
          exact ⟨ret_int (by rw [HC2.out, if_pos (by omega)]), by first | exact Drawn.of2 _ _ _ | exact Drawn.of3 _ _ _ _⟩
        · by_cases l2 : r < p
          · go_wp2
            go_quiet (fail)
            go_wp2
            go_quiet (fail)
            go_wp2
            go_ret
            exact ⟨ret_int (by rw [HC2.out, if_neg (by omega), if_pos (by omega)]), by first | exact Drawn.of2 _ _ _ | exact Drawn.of3 _ _ _ _⟩
          · go_wp2
            go_quiet (fail)
            go_wp2
            go_quiet (fail)
            go_wp2
            go_roundg (n - (k + 1))
            case measure => omega
            case rel => exact ⟨k + 1, _, by omega, by omega, by omega, by go_num, by first | rfl | rw [World.drewN_drewN], Lib.hid (by rw [HC2.out, if_neg (by omega), if_neg (by omega)])⟩
      · obtain rfl : m = k := by omega
        have HC2 := Lib.hid (HC.out.trans (cmpL_gt (by simp [Hn.out]; omega) (by simp [Hm.out])))
        have i1 : ¬ ((n : Int) < (m : Int)) := by omega
        have i2 : ((m : Int) < (n : Int)) := by omega
        go_wp2
        go_ret
        exact ⟨ret_int (by rw [HC2.out]), Drawn.of _ _⟩
    · obtain rfl : n = k := by omega
      by_cases h2 : n < m
      · have HC2 := Lib.hid (HC.out.trans (cmpL_lt (by simp [Hn.out]) (by simp [Hm.out]; omega)))
        go_wp2
        go_ret
        exact ⟨ret_int (by rw [HC2.out]), Drawn.of _ _⟩
      · obtain rfl : n = m := by omega
        have HC2 := Lib.hid (HC.out.trans (show cmpL (x.drop n) (y.drop n) = 0 from cmpL_eq.2 (by rw [List.drop_of_length_le (by rw [Hn.out]; exact Nat.le_refl _), List.drop_of_length_le (by rw [Hm.out]; exact Nat.le_refl _)])))
        go_wp2
        go_ret
        exact ⟨ret_int (by rw [HC2.out]), Drawn.of _ _⟩

set_option maxHeartbeats 1000000 in
theorem same_any (u v : Value) (x y : List Int) (w : World) (hx : Runs w u x) (hy : Runs w v y) :
    Calls Tryd.prog 58 #[u, v] w fun e w' => e = .returned (.bool (decide (x = y))) ∧ Drawn w w' := by
  have hq : (cmpL x y == 0) = decide (x = y) := by rw [Bool.eq_iff_iff]; simp [cmpL_eq]
  obtain ⟨z, hz⟩ : ∃ z, cmpL x y = z := ⟨_, rfl⟩
  rw [hz] at hq
  have Hq := Lib.hid hq; clear hq
  have c := refCompare_any u v x y w hx hy
  rw [hz] at c
  clear hz
  have C := Lib.hid c; clear c
  go_enter Tryd.func58, Tryd.ntmps58
  go_wp2_with fail
  refine C.out.mono ?_
  rintro e w' ⟨rfl, hd⟩
  go_wp2
  go_ret
  exact ⟨ret_bool Hq.out, hd⟩
end Go.Proofs.YtbbkkoeipkigdaaDoor

/- The law RunesJoin, walked: two texts one behind the other have the runes of both. -/
namespace Go.Proofs.YtbbkkoeipkigdaaDoor
open Go.RowKit Go.Shelf

def RetTrue (w : World) (e : Ending) (w' : World) : Prop := e = .returned (.bool true) ∧ Below w.heap.size w w'

theorem addr_add (b o j : Nat) : (⟨b, o, none⟩ : Addr).add j = ⟨b, o + j, none⟩ := by
  unfold Addr.add
  by_cases h : j = 0
  · subst h; rfl
  · simp [h]
/-- An append whose run is known, guarded or not. -/
theorem wpList_append_run {P : Program} {w : World} {ops : Array Oper} {rest : List Oper} {o : Oper} {a : Act} {Q : Exit → Act → World → Prop} (s x : Operand) (t : TypeId) (v u v' : Value) (w' : World)
    (hrun : (Builtin.append_ #[t, t] o.type #[v, u]).run P w = .ok v' w') (hw : Region.wanted o (yielded ops a.tmps) = true)
    (ho : o.op = .call { callee := .builtin .append, args := #[s, x], argTypes := #[t, t] }) (hs : a.eval s = v) (hx : a.eval x = u)
    (h : wpList P ops Q rest (a.put o.dst v') w') : wpList P ops Q (o :: rest) a w := by
  refine wpList_step fun K hK => ?_
  rw [if_pos hw]
  unfold Oper.wp execOp
  simp only [ho, resolve, invoke, builtin, Sem.run_bind, Sem.run_pure, Result.andThen_ok, List.map_toArray, List.map_cons, List.map_nil, hs, hx, hrun]
  exact hK _ _ h
/-- append(v, u...) of a row of the call's own and a list of runes. -/
theorem append_runs (w : World) (base : Nat) (v : Value) (n : Nat) (xs : List Value) (hown : w.ownsRow base 21 1 v n xs) (u : Value) (ys : List Int) (hu : Runs w u ys) (hbase : base ≤ w.heap.size) (hlen : (n + ys.length) * 4 ≤ 140737488355328) :
    ∃ v' w', (Builtin.append_ #[46, 46] 46 #[v, u]).run Tryd.prog w = .ok v' w' ∧ w'.ownsRow base 21 1 v' (n + ys.length) (xs ++ ys.map (Value.int .i32)) ∧ w.grownBy w' v.ownBlock ∧ (v'.ownBlock = v.ownBlock ∨ v'.ownBlock = some w.heap.size) := by
  obtain ⟨i0, hi, hz0, hz1, hz2⟩ := info_parts info32
  obtain ⟨A, c, rfl, hxc, ⟨hxm, hc0⟩, hxx⟩ := hu
  cases A with
  | none =>
    obtain rfl := hc0 rfl
    have h0 : ys = [] := List.eq_nil_of_length_eq_zero (by omega)
    subst h0
    exact ⟨v, w, run_append_owned_none (P := Tryd.prog) (w := w) base 46 46 21 i0 1 Tryd.underlying46 hi v n xs hown, by simpa using hown, World.grownBy.refl w _, .inl rfl⟩
  | some ad =>
    have hcells : ∀ j u, (ys.map (Value.int .i32))[j]? = some u → w.cell? (ad.add j) = some u := by
      intro j u hj
      rw [List.getElem?_map] at hj
      obtain ⟨z, hz, rfl⟩ := Option.map_eq_some_iff.1 hj
      obtain ⟨hjl, hjz⟩ := List.getElem?_eq_some_iff.1 hz
      obtain ⟨b, o, e, _, hc⟩ := hxx (by omega)
      have e := Option.some.inj e
      subst e
      rw [addr_add, hc j hjl, List.getD_eq_getElem?_getD, hz]
      rfl
    obtain ⟨v', w', hrun, h2, h3, _, h5⟩ := run_append_own_at (P := Tryd.prog) w base 46 46 21 i0 _ 1 4 Tryd.underlying46 hi hz0 hz1 hz2 rfl (by decide) v n xs hown ad ys.length c (ys.map (Value.int .i32)) (by simp) hcells (fun u hu => by obtain ⟨z, _, rfl⟩ := List.mem_map.1 hu; rfl) (by unfold maxLen; omega) hlen hbase
    exact ⟨v', w', hrun, h2, h3, h5⟩
theorem own_lit (w : World) : (w.alloc (.cells #[] 21)).ownsRow w.heap.size 21 1 (.slice (some ⟨w.heap.size, 0, none⟩) 0 0) 0 [] :=
  ⟨by simp, .inr ⟨w.heap.size, 0, #[], rfl, Nat.le_refl _, heap_alloc_new w _, Nat.le_refl _, by simp [maxLen], by simp, by simp⟩⟩
/-- Decode answers the runes xs and the error er at the text s. -/
def DecAt (s : ByteArray) (xs : List Int) (er : Int) : Prop := ∀ w, Okw w → Calls Tryd.prog 22 #[.string s] w fun e w' => ∃ A c, e = .returned (.tuple #[.slice A xs.length c, .int .i64 er]) ∧ Runs w' (.slice A xs.length c) xs ∧ Below w.heap.size w w'
theorem decAt (s : ByteArray) (hs : s.size * 4 ≤ 140737488355328) : DecAt s (decRunes s.data.toList) (decErr s.data.toList) := fun w h => decode_runs s w hs h.1 h.2
theorem decAt_yes (s : ByteArray) (hs : s.size * 4 ≤ 140737488355328) (hv : Lib.validD s.data.toList = true) : DecAt s (items s.data.toList) 0 := by
  have := decAt s hs; simpa [decRunes, decErr, hv] using this
theorem decAt_no (s : ByteArray) (hs : s.size * 4 ≤ 140737488355328) (hv : Lib.validD s.data.toList = false) : DecAt s [] 3 := by
  have := decAt s hs; simpa [decRunes, decErr, hv] using this
theorem app_toList (a b : ByteArray) : (a ++ b).data.toList = a.data.toList ++ b.data.toList := by simp
theorem app_size (a b : ByteArray) : (a ++ b).size = a.size + b.size := by simp

end Go.Proofs.YtbbkkoeipkigdaaDoor

/- Builder.WriteRune: the library's contract, laid here by hand: the table of numbers, and the kernel's comparison of each body. -/
namespace Go.Proofs.YtbbkkoeipkigdaaDoor
open Go.Shelf Go.RowKit
def ren168 : Go.Shelf.Ren := ⟨fun | 168 => 39 | 240 => 61 | 242 => 62 | 276 => 76 | 278 => 77 | n => n,
  fun | 0 => 0 | 3 => 3 | 4 => 4 | 5 => 5 | 9 => 9 | 20 => 20 | 21 => 21 | 37 => 88 | 46 => 116 | 51 => 129 | 70 => 87 | 72 => 90 | 75 => 93 | 80 => 96 | 164 => 127 | n => n, fun | n => n⟩
theorem f168 : Tryd.prog.funcs[39]? = some (Body.n168 ren168) := Tryd.func39.trans (congrArg some (by kernel_rfl))
theorem f240 : Tryd.prog.funcs[61]? = some (Body.n240 ren168) := Tryd.func61.trans (congrArg some (by kernel_rfl))
theorem f242 : Tryd.prog.funcs[62]? = some (Body.n242 ren168) := Tryd.func62.trans (congrArg some (by kernel_rfl))
theorem f276 : Tryd.prog.funcs[76]? = some (Body.n276 ren168) := Tryd.func76.trans (congrArg some (by kernel_rfl))
theorem f278 : Tryd.prog.funcs[77]? = some (Body.n278 ren168) := Tryd.func77.trans (congrArg some (by kernel_rfl))
theorem lays168 : Go.Proofs.Lays.n168 Tryd.prog ren168 := {
  mixed := by kernel_rfl
  f168 := f168
  f240 := f240
  f242 := f242
  f276 := f276
  f278 := f278
  t0 := Tryd.underlying0
  a0 := Tryd.isAgg0
  z0 := Tryd.sizeOf0
  v0 := Tryd.zeroValue0
  t3 := Tryd.underlying3
  a3 := Tryd.isAgg3
  z3 := Tryd.sizeOf3
  v3 := Tryd.zeroValue3
  t4 := Tryd.underlying4
  a4 := Tryd.isAgg4
  z4 := Tryd.sizeOf4
  v4 := Tryd.zeroValue4
  t5 := Tryd.underlying5
  a5 := Tryd.isAgg5
  z5 := Tryd.sizeOf5
  v5 := Tryd.zeroValue5
  t9 := Tryd.underlying9
  a9 := Tryd.isAgg9
  z9 := Tryd.sizeOf9
  v9 := Tryd.zeroValue9
  t20 := Tryd.underlying20
  a20 := Tryd.isAgg20
  z20 := Tryd.sizeOf20
  v20 := Tryd.zeroValue20
  t21 := Tryd.underlying21
  a21 := Tryd.isAgg21
  z21 := Tryd.sizeOf21
  v21 := Tryd.zeroValue21
  t37 := Tryd.underlying88
  a37 := Tryd.isAgg88
  z37 := Tryd.sizeOf88
  v37 := Tryd.zeroValue88
  t46 := Tryd.underlying116
  a46 := Tryd.isAgg116
  z46 := Tryd.sizeOf116
  v46 := Tryd.zeroValue116
  t51 := Tryd.underlying129
  a51 := Tryd.isAgg129
  z51 := Tryd.sizeOf129
  v51 := Tryd.zeroValue129
  t70 := Tryd.underlying87
  a70 := Tryd.isAgg87
  z70 := Tryd.sizeOf87
  v70 := Tryd.zeroValue87
  t72 := Tryd.underlying90
  a72 := Tryd.isAgg90
  z72 := Tryd.sizeOf90
  v72 := Tryd.zeroValue90
  t75 := Tryd.underlying93
  a75 := Tryd.isAgg93
  z75 := Tryd.sizeOf93
  v75 := Tryd.zeroValue93
  t164 := Tryd.underlying127
  a164 := Tryd.isAgg127
  z164 := Tryd.sizeOf127
  v164 := Tryd.zeroValue127 }
theorem extra168 : Builder.Extra Tryd.prog ren168 := {
  sizeBuilder := by kernel_rfl
  liesBuilder := by kernel_rfl
  t5 := Tryd.underlying5
  a5 := Tryd.isAgg5
  z5 := Tryd.sizeOf5
  v5 := Tryd.zeroValue5
  infoByte := by kernel_rfl
  cellsByte := by kernel_rfl
  sizeByte := by kernel_rfl
  neB5 := by decide }
/-- WriteRune, of every rune: its bytes behind what the builder held. -/
theorem writeRune_k (B b : Nat) (bs : List Value) (r : Int) (h0 : -2147483648 ≤ r) (h1 : r ≤ 2147483647) (w : World) (h : Lib.IsBuilderF 90 5 B b bs w) (hl : bs.length + 4 ≤ 140737488355328) (hB : B ≤ w.heap.size) :
    Calls Tryd.prog 39 #[.pointer (some ⟨b, 0, none⟩), .int .i32 r] w fun e w' => e = .returned (.tuple #[.int .i64 (Lib.runeCells r).length, .nilIface]) ∧ Lib.IsBuilderF 90 5 B b (bs ++ Lib.runeCells r) w' ∧ Below B w w' :=
  (Any.Builder_WriteRune_k lays168 extra168 B b bs r h0 h1 w h hl hB).mono fun _ _ ⟨he, hb, hbl, _⟩ => ⟨he, .inr hb, hbl⟩
end Go.Proofs.YtbbkkoeipkigdaaDoor

/- runes.Encode: what it answers, for every list of numbers. -/
namespace Go.Proofs.YtbbkkoeipkigdaaDoor
open Go.RowKit Go.Shelf

def allRunes (l : List Int) : Bool := l.all Lib.validRune
def encErr (l : List Int) : Int := if allRunes l then 0 else 3
def encS (l : List Int) : List UInt8 := if allRunes l then encL l else []

theorem encL_take (l : List Int) (k : Nat) (h : k < l.length) : encL (l.take (k + 1)) = encL (l.take k) ++ Lib.encodeRune (l.getD k 0) := by
  rw [List.take_succ_eq_append_getElem h, encL_append]
  simp [encL, List.getD_eq_getElem?_getD, h]
theorem all_take (l : List Int) (k : Nat) (h : k < l.length) : allRunes (l.take (k + 1)) = (allRunes (l.take k) && Lib.validRune (l.getD k 0)) := by
  unfold allRunes
  rw [List.take_succ_eq_append_getElem h, List.all_append, List.getD_eq_getElem?_getD, List.getElem?_eq_getElem h]
  simp
theorem all_no (l : List Int) (k : Nat) (h : k < l.length) (hv : Lib.validRune (l.getD k 0) = false) : allRunes l = false := by
  unfold allRunes; rw [List.all_eq_false]
  exact ⟨l.getD k 0, by simp [List.getD_eq_getElem?_getD, h], fun h' => by rw [hv] at h'; cases h'⟩

set_option maxRecDepth 100000 in
set_option maxHeartbeats 2000000 in
theorem encode_any (u : Value) (l : List Int) (w : World) (hu : Runs w u l) (hlen : l.length * 4 + 4 ≤ 140737488355328) (hwf : ∀ x ∈ l, -2147483648 ≤ x ∧ x ≤ 2147483647) :
    Calls Tryd.prog 23 #[u] w fun e w' => e = .returned (.tuple #[.string ⟨(encS l).toArray⟩, .int .i64 (encErr l)]) ∧ Below w.heap.size w w' := by
  obtain ⟨A, c, rfl, hxc, ⟨hxm, _⟩, hxx⟩ := hu
  unfold maxLen at hxm
  obtain ⟨n, hn⟩ : ∃ n, l.length = n := ⟨_, rfl⟩
  rw [hn] at hxc hxx hlen ⊢
  have Hn := Lib.hid hn; clear hn
  have HX := Lib.hid hxx; clear hxx
  have HW := Lib.hid hwf; clear hwf
  have hfresh := Lib.IsBuilderF.of (Lib.fresh_isBuilder 90 5 w)
  obtain ⟨es, hes⟩ : ∃ es, encS l = es := ⟨_, rfl⟩
  obtain ⟨ee, hee⟩ : ∃ ee, encErr l = ee := ⟨_, rfl⟩
  rw [hes, hee]
  have Hes := Lib.hid hes; clear hes
  have Hee := Lib.hid hee; clear hee
  go_enter Tryd.func23, Tryd.ntmps23
  go_wp2
  go_loopw [9] (fun i wr => ∃ k : Nat, k ≤ n ∧ i = .int .i64 k ∧ Lib.IsBuilderF 90 5 w.heap.size w.heap.size (Lib.byteCells (encL (l.take k))) wr ∧ Below w.heap.size w wr ∧ Hid (allRunes (l.take k) = true)) (fun i _ => n - (intOf i).toNat)
  case atStart => exact ⟨0, Nat.zero_le _, rfl, by simpa [encL, Lib.byteCells] using hfresh, (Below.refl _ w).alloc (Nat.le_refl _) _, Lib.hid (by simp [allRunes])⟩
  case round =>
    obtain ⟨k, hk, rfl, hbd, hB, HA⟩ := hrel
    clear hfresh
    by_cases hlt : k < n
    · obtain ⟨b, o, rfl, hb, hc1⟩ := HX.out (by omega)
      have e1 := (hB.cell (p := ⟨b, o + k, none⟩) hb).trans (hc1 k hlt)
      have hr := HW.out (l.getD k 0) (by simp [List.getD_eq_getElem?_getD, Hn.out, hlt])
      have t1 := encL_take l k (by rw [Hn.out]; exact hlt)
      have t2 := all_take l k (by rw [Hn.out]; exact hlt)
      have t3 := all_no l k (by rw [Hn.out]; exact hlt)
      obtain ⟨r, hr1⟩ : ∃ r, l.getD k 0 = r := ⟨_, rfl⟩
      rw [hr1] at e1 hr t1 t2 t3
      have T1 := Lib.hid t1; have T2 := Lib.hid t2; have T3 := Lib.hid t3
      clear t1 t2 t3 hr1 hc1
      obtain ⟨r1, r2⟩ := hr
      have i1 : (k : Int) < (n : Int) := by omega
      have c1 := Tryd.utf8_ValidRune r wr
      cases hv : Lib.validRune r
      · rw [hv] at c1
        have C1 := Lib.hid c1
        have HV := Lib.hid hv
        clear c1 hv
        go_wp2_with (go_at_call 38; refine C1.out.mono ?_; rintro e w' ⟨rfl, rfl⟩)
        go_ret2
        have h0 := T3.out HV.out
        exact ⟨by rw [← Hes.out, ← Hee.out]; simp [encS, encErr, h0], hB⟩
      · rw [hv] at c1
        have C1 := Lib.hid c1
        have HV := Lib.hid hv
        clear c1 hv
        have hle : (Lib.byteCells (encL (l.take k))).length + 4 ≤ 140737488355328 := by
          rw [Lib.byteCells_length]; have := encL_le (l.take k); rw [List.length_take] at this; omega
        have C2 := Lib.hid (writeRune_k w.heap.size w.heap.size _ r r1 r2 wr hbd hle hB.size)
        clear hle
        go_wp2_with (first | (go_at_call 38; refine C1.out.mono ?_; rintro e w' ⟨rfl, rfl⟩) | (go_at_call 39; refine C2.out.mono ?_; rintro e w1 ⟨rfl, hb1, hw1⟩))
        go_roundw
        case rel => exact ⟨k + 1, by omega, by go_num, by rw [T1.out, Lib.byteCells_append, Lib.byteCells_encodeRune]; exact hb1, hB.trans hw1, Lib.hid (by rw [T2.out, HA.out, HV.out]; rfl)⟩
        case measure => simp [intOf]; omega
    · obtain rfl : n = k := by omega
      have C := Lib.hid (Tryd.Builder_String_any_f w.heap.size w.heap.size _ wr hbd hB.size)
      go_wp2_with (go_at_call 40; refine C.out.mono ?_; rintro e w1 ⟨rfl, _, hw1⟩)
      go_ret2
      have ht : l.take n = l := List.take_of_length_le (by rw [Hn.out]; exact Nat.le_refl _)
      have h0 : allRunes l = true := by have := HA.out; rwa [ht] at this
      exact ⟨by rw [← Hes.out, ← Hee.out, ht]; simp [encS, encErr, h0], hB.trans hw1⟩
end Go.Proofs.YtbbkkoeipkigdaaDoor

/- The law RunesBack, walked: what is encoded is decoded, what is decoded is encoded as it was. -/
namespace Go.Proofs.YtbbkkoeipkigdaaDoor
open Go.RowKit Go.Shelf

theorem mk_toList (l : List UInt8) : (ByteArray.mk l.toArray).data.toList = l := by simp
theorem mk_data (s : ByteArray) (l : List UInt8) (h : l = s.data.toList) : (⟨l.toArray⟩ : ByteArray) = s := by subst h; rfl
theorem rune_i32 {r : Int} (h : Lib.validRune r = true) : -2147483648 ≤ r ∧ r ≤ 2147483647 := by have := rune_bd h; omega

/-- Encode answers the text t and the error er at the list l. -/
def EncAt (l : List Int) (t : ByteArray) (er : Int) : Prop := ∀ w u, Runs w u l → Calls Tryd.prog 23 #[u] w fun e w' => e = .returned (.tuple #[.string t, .int .i64 er]) ∧ Below w.heap.size w w'
theorem encAt_yes (l : List Int) (hlen : l.length * 4 + 4 ≤ 140737488355328) (hv : allRunes l = true) : EncAt l ⟨(encL l).toArray⟩ 0 := fun w u hu => by
  have := encode_any u l w hu hlen (fun x hx => rune_i32 (List.all_eq_true.1 hv x hx))
  simpa [encS, encErr, hv] using this
theorem encAt_no (l : List Int) (hlen : l.length * 4 + 4 ≤ 140737488355328) (hwf : ∀ x ∈ l, -2147483648 ≤ x ∧ x ≤ 2147483647) (hv : allRunes l = false) : EncAt l ⟨#[]⟩ 3 := fun w u hu => by
  have := encode_any u l w hu hlen hwf
  simpa [encS, encErr, hv] using this

end Go.Proofs.YtbbkkoeipkigdaaDoor

/- The law RunesTokens, walked: a token is a text of one to so many runes; a letter's text is one of letters, and of two, too. -/
namespace Go.Proofs.YtbbkkoeipkigdaaDoor
open Go.RowKit Go.Shelf

/-- Of a text there are as many runes as are counted. -/
theorem count_items (s : ByteArray) : ∀ (fuel pos : Nat), s.size - pos ≤ fuel → Lib.validD (s.data.toList.drop pos) = true → Lib.runeCountFrom s fuel pos = (items (s.data.toList.drop pos)).length := by
  intro fuel
  induction fuel with
  | zero =>
    intro pos hf hv
    rw [List.drop_of_length_le (by rw [← Lib.size_eq]; omega)]
    rw [Lib.runeCountFrom_end _ _ _ (by omega)]; rfl
  | succ fuel ih =>
    intro pos hf hv
    by_cases hp : pos < s.size
    · have hne := drop_ne s pos hp
      have hd : Utf8.decode s pos = Lib.decodeL (s.data.toList.drop pos) := by
        rw [Lib.decodeL_N, Lib.decode_N]
        simp [List.getD_eq_getElem?_getD, List.getElem?_drop]
      have hb : badB (s.data.toList.drop pos) = false := by
        cases h : badB (s.data.toList.drop pos) with
        | false => rfl
        | true => rw [valid_step _ hne, h] at hv; simp at hv
      rw [valid_step _ hne, hb] at hv
      simp only [Bool.false_eq_true, if_false, List.drop_drop] at hv
      have hw := Lib.decodeL_width (s.data.toList.drop pos)
      rw [items_step _ hne, hb]
      simp only [Bool.false_eq_true, if_false, List.length_cons, List.drop_drop]
      rw [← ih (pos + (Lib.decodeL (s.data.toList.drop pos)).2) (by omega) hv, ← hd]
      simp only [Lib.runeCountFrom, hp, if_true]
      omega
    · rw [List.drop_of_length_le (by rw [← Lib.size_eq]; omega), Lib.runeCountFrom_end _ _ _ hp]; rfl
theorem count_valid (s : ByteArray) (hv : Lib.validD s.data.toList = true) : Lib.runeCount s = (items s.data.toList).length := by
  have := count_items s s.size 0 (by omega) (by simpa using hv)
  simpa [Lib.runeCount] using this

theorem letter_valid (r : Int) (h : letterB r = true) : Lib.validRune r = true := by
  unfold letterB at h
  simp only [decide_eq_true_eq] at h
  rcases h with h | h | h
  · simp [Lib.validRune]; omega
  · simp [Lib.validRune]; omega
  · exact h.2.1
theorem letters_one (r : Int) (t : List Int) (h : Lib.validRune r = true) (ht : ∀ x ∈ t, Lib.validRune x = true) : lettersB (encL (r :: t)) = (letterB r && t.all letterB) := by
  unfold lettersB
  have hr : ∀ x ∈ r :: t, Lib.validRune x = true := by intro x hx; rcases List.mem_cons.1 hx with rfl | hx; exact h; exact ht x hx
  rw [(items_of_enc (r :: t) hr).1]
  have : (encL (r :: t)).isEmpty = false := by
    rw [encL_cons]
    have := encodeRune_len r
    cases h : Lib.encodeRune r with
    | nil => rw [h] at this; simp at this
    | cons _ _ => rfl
  rw [this]; simp
theorem enc_blank : Lib.encodeRune 32 = [32] := by decide +kernel


theorem runs_lit (w : World) (r : Int) : Runs (w.alloc (.cells #[.int .i32 r] 21)) (.slice (some ⟨w.heap.size, 0, none⟩) 1 1) [r] := by
  refine ⟨some ⟨w.heap.size, 0, none⟩, 1, rfl, by simp, ⟨by simp [maxLen], fun h => by cases h⟩, fun _ => ⟨w.heap.size, 0, rfl, by simp, fun j hj => ?_⟩⟩
  obtain rfl : j = 0 := by simp at hj; exact hj
  exact cell_of_row _ _ _ #[.int .i32 r] 21 (0, 0) (heap_alloc_new w _)
end Go.Proofs.YtbbkkoeipkigdaaDoor

/- errataref01.Decode, Letters, Token: the document's answers, for every string. -/
namespace Go.Proofs.YtbbkkoeipkigdaaDoor
open Go.RowKit Go.Shelf

theorem own_below {w w' : World} {base : Nat} {e : TypeId} {size n : Nat} {v : Value} {xs : List Value} (h : w.ownsRow base e size v n xs) (hb : Below w.heap.size w w') : w'.ownsRow base e size v n xs :=
  h.kept (grown_none hb) (by cases hv : v.ownBlock with
    | none => exact .inl rfl
    | some g => exact .inr (by simp))
theorem own_block {w : World} {base : Nat} {e : TypeId} {size n : Nat} {v : Value} {xs : List Value} (h : w.ownsRow base e size v n xs) : ∀ g, v.ownBlock = some g → base ≤ g := by
  intro g hg
  rcases h.2 with ⟨rfl, _⟩ | ⟨g', cap, cur, rfl, hb, _⟩
  · simp [Value.ownBlock] at hg
  · obtain rfl : g' = g := by simpa [Value.ownBlock] using hg
    exact hb
/-- The length of a string in a slot. -/
def strLen : Value → Nat | .string t => t.size | _ => 0

set_option maxRecDepth 100000 in
set_option maxHeartbeats 2000000 in
theorem refDecode_any (s : ByteArray) (w : World) (hs : s.size * 4 ≤ 140737488355328) :
    Calls Tryd.prog 31 #[.string s] w (DecPost s w) := by
  obtain ⟨L, hL⟩ : ∃ L, s.data.toList = L := ⟨_, rfl⟩
  have hLl : L.length = s.size := by rw [← hL, Lib.size_eq]
  have HL := Lib.hid hL; clear hL
  clear hLl
  go_enter Tryd.func31, Tryd.ntmps31
  go_wp2
  go_loopw [0, 4] (fun s0 s4 wr => ∃ (k : Nat) (t : ByteArray) (pre : List Int), s0 = .string t ∧ k + t.size ≤ s.size ∧ pre.length ≤ k ∧ Hid (t.data.toList = L.drop k) ∧ wr.ownsRow w.heap.size 21 1 s4 pre.length (pre.map (Value.int .i32)) ∧ Below w.heap.size w wr ∧ Hid (items L = pre ++ items (L.drop k)) ∧ Hid (Lib.validD L = Lib.validD (L.drop k))) (fun s0 _ _ => strLen s0)
  case atStart => exact ⟨0, s, [], rfl, by omega, by simp, Lib.hid (by rw [HL.out]; simp), World.ownsRow_nil _ _ _ _, Below.refl _ _, Lib.hid (by simp), Lib.hid (by simp)⟩
  case round =>
    obtain ⟨k, t, pre, rfl, hkt, hpk, HT, hrow, hB, HI, HV⟩ := hrel
    by_cases hpos : 0 < t.size
    · have C := Lib.hid (first_any t wr (by unfold maxLen; omega) hpos)
      have hne : L.drop k ≠ [] := by
        intro e
        have h1 := HT.out
        rw [e] at h1
        have h2 := Lib.size_eq t
        rw [h1, List.length_nil] at h2; omega
      have hst := items_step _ hne
      have hvt := valid_step _ hne
      rw [HT.out] at C
      have hp1 : (0 : Int) < (t.size : Int) := by omega
      cases hb : badB (L.drop k)
      · have hle := Lib.decodeL_le _ hne
        have hwd := Lib.decodeL_width (L.drop k)
        have hle2 : (Lib.decodeL (L.drop k)).2 ≤ t.size := by rw [Lib.size_eq, HT.out]; exact hle
        rw [hb] at hst hvt
        simp only [Bool.false_eq_true, if_false, List.drop_drop] at hst hvt
        have e1 : firstR (L.drop k) = ((Lib.decodeL (L.drop k)).1 : Int) := by simp [firstR, hb]
        have e2 : firstN (L.drop k) = (Lib.decodeL (L.drop k)).2 := by simp [firstN, hb]
        rw [e1, e2] at C
        obtain ⟨R, hR⟩ : ∃ R, (Lib.decodeL (L.drop k)).1 = R := ⟨_, rfl⟩
        obtain ⟨K, hK⟩ : ∃ K, (Lib.decodeL (L.drop k)).2 = K := ⟨_, rfl⟩
        rw [hR, hK] at C hst
        rw [hK] at hvt hle2 hwd
        have HS := Lib.hid hst
        have HVT := Lib.hid hvt
        clear hst hvt e1 e2 hb hle hne hR hK
        have hK0 : ((K : Int) == 0) = false := by simp; omega
        go_wp2_with fail
        refine C.out.mono ?_
        rintro e w1 ⟨rfl, hb1⟩
        have hrow1 := own_below hrow hb1
        have hB1 : Below w.heap.size w w1 := hB.trans (hb1.mono hB.size)
        have hBa : Below w1.heap.size w1 (w1.alloc (.cells #[.int .i32 (R : Int)] 21)) := (Below.refl _ _).alloc (Nat.le_refl _) _
        obtain ⟨v2, w2, hrun, hown, hg, _⟩ := append_runs _ w.heap.size _ _ _ (own_below hrow1 hBa) _ [(R : Int)] (runs_lit w1 R) (Nat.le_trans hB1.size hBa.size) (by simp; omega)
        have hB2 : Below w.heap.size w w2 := (hB1.trans (hBa.mono hB1.size)).grown hg (Nat.le_trans hB1.size hBa.size) (own_block hrow)
        have HR := Lib.hid hrun
        clear hrun
        have hsl : (K : Int) ≤ (t.size : Int) := by omega
        go_wp2_with (at_builtin; refine wpList_append_run (.tmp 17) (.tmp 19) 46 _ _ _ _ HR.out rfl rfl rfl rfl ?_)
        go_roundw
        case rel =>
          refine ⟨k + K, t.extract K t.size, pre ++ [(R : Int)], rfl, by simp; omega, by simp; omega, Lib.hid (by rw [Lib.extract_to_end, HT.out, List.drop_drop]), by simpa using hown, hB2, Lib.hid (by rw [HI.out, HS.out]; simp), Lib.hid (by rw [HV.out, HVT.out])⟩
        case measure => simp [strLen]; omega
      · rw [hb] at hst hvt
        simp only [if_true] at hst hvt
        have e1 : firstR (L.drop k) = 0 := by simp [firstR, hb]
        have e2 : firstN (L.drop k) = 0 := by simp [firstN, hb]
        rw [e1, e2] at C
        have HVT := Lib.hid hvt
        clear hst hvt e1 e2 hb hne
        go_wp2_with (go_at_call 54; refine C.out.mono ?_; rintro e w1 ⟨rfl, hb1⟩)
        go_ret2
        unfold DecPost
        rw [HL.out, HV.out, HVT.out]
        exact ⟨_, rfl, World.ownsRow_nil _ _ _ _, hB.trans (hb1.mono hB.size)⟩
    · have hz : t.size = 0 := by omega
      have hdr : L.drop k = [] := by
        have h1 := HT.out
        have h2 := Lib.size_eq t
        rw [h1, hz] at h2
        exact List.eq_nil_of_length_eq_zero h2.symm
      have HD := Lib.hid hdr
      have hp1 : ¬ (0 : Int) < (t.size : Int) := by omega
      clear hdr
      go_wp2
      go_ret2
      unfold DecPost
      rw [HL.out, HV.out, HI.out, HD.out, Lib.validD_nil, items_nil, List.append_nil]
      exact ⟨_, rfl, hrow, hB⟩

theorem refDecode_runs (s : ByteArray) (w : World) (hs : s.size * 4 ≤ 140737488355328) :
    Calls Tryd.prog 31 #[.string s] w fun e w' => ∃ A c, e = .returned (.tuple #[.slice A (decRunes s.data.toList).length c, .int .i64 (decErr s.data.toList)]) ∧ Runs w' (.slice A (decRunes s.data.toList).length c) (decRunes s.data.toList) ∧ Below w.heap.size w w' := by
  refine (refDecode_any s w hs).mono ?_
  rintro e w' ⟨v, rfl, hrow, hb⟩
  have hr : Runs w' v (decRunes s.data.toList) := Runs.of_own hrow
  have hr' := hr
  obtain ⟨A, c, rfl, _⟩ := hr'
  exact ⟨A, c, rfl, hr, hb⟩

theorem letters_bad (l : List UInt8) (h : Lib.validD l = false) : lettersB l = false := by
  have hn : ¬ ∀ x ∈ items l, x ≠ -1 := fun hh => by rw [(items_valid l).1 hh] at h; cases h
  have : ∃ x ∈ items l, x = -1 := by
    apply Classical.byContradiction
    intro hc
    exact hn (fun x hx e => hc ⟨x, hx, e⟩)
  obtain ⟨x, hx, rfl⟩ := this
  unfold lettersB
  rw [Bool.and_eq_false_iff]; right
  rw [List.all_eq_false]
  exact ⟨-1, hx, by decide⟩
theorem letters_good (l : List UInt8) : lettersB l = (decide (0 < (items l).length) && (items l).all letterB) := by
  unfold lettersB
  congr 1
  cases h : l with
  | nil => rfl
  | cons a t =>
    have : (items (a :: t)).length ≠ 0 := fun e => by
      have := (items_eq_nil (a :: t)).1 (List.eq_nil_of_length_eq_zero e); cases this
    simp; omega
theorem all_take_letters (xs : List Int) (k : Nat) (h : k < xs.length) : (xs.take (k + 1)).all letterB = ((xs.take k).all letterB && letterB (xs.getD k 0)) := by
  rw [List.take_succ_eq_append_getElem h, List.all_append, List.getD_eq_getElem?_getD, List.getElem?_eq_getElem h]
  simp
theorem all_no_letters (xs : List Int) (k : Nat) (h : k < xs.length) (hv : letterB (xs.getD k 0) = false) : xs.all letterB = false := by
  rw [List.all_eq_false]
  exact ⟨xs.getD k 0, by simp [List.getD_eq_getElem?_getD, h], fun h' => by rw [hv] at h'; cases h'⟩


end Go.Proofs.YtbbkkoeipkigdaaDoor

