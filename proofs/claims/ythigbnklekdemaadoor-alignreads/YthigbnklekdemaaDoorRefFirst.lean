/- errataref01.first: the rune that some bytes begin with, as the decoder tells it. -/
import Derived.Test.YthigbnklekdemaaDoorRefSmall
import Derived.BigRegion
import Derived.Deep.RegionWith
import Derived.Laws.IdiomStrings
namespace Go.Proofs.YthigbnklekdemaaDoor
open Go.RowKit Go.Shelf Go.Lib

/-- What the document reckons of the first n bytes. -/
def partR (l : List UInt8) (n : Nat) : Nat → Int
  | 0 => ((l.getD 0 0).toNat : Int) - (if n = 2 then 192 else if n = 3 then 224 else if n = 4 then 240 else 0)
  | k + 1 => partR l n k * 64 + ((l.getD (k + 1) 0).toNat : Int) - 128
def candR (l : List UInt8) (n : Nat) : Int := partR l n (n - 1)
def testR (l : List UInt8) (n : Nat) : Bool := Lib.validRune (candR l n) && decide (encodeRune (candR l n) = l.take n)

theorem byte_lt (b : UInt8) : b.toNat < 256 := b.toNat_lt
theorem cand1 (l : List UInt8) : candR l 1 = ((l.getD 0 0).toNat : Int) := by simp [candR, partR]
theorem cand2 (l : List UInt8) : candR l 2 = (((l.getD 0 0).toNat : Int) - 192) * 64 + ((l.getD 1 0).toNat : Int) - 128 := by simp [candR, partR]
theorem cand3 (l : List UInt8) : candR l 3 = ((((l.getD 0 0).toNat : Int) - 224) * 64 + ((l.getD 1 0).toNat : Int) - 128) * 64 + ((l.getD 2 0).toNat : Int) - 128 := by simp [candR, partR]
theorem cand4 (l : List UInt8) : candR l 4 = (((((l.getD 0 0).toNat : Int) - 240) * 64 + ((l.getD 1 0).toNat : Int) - 128) * 64 + ((l.getD 2 0).toNat : Int) - 128) * 64 + ((l.getD 3 0).toNat : Int) - 128 := by simp [candR, partR]

/-- A test that stands tells the rune. -/
theorem test_decode (l : List UInt8) (n : Nat) (hn : n ≤ l.length) (h : testR l n = true) : badB l = false ∧ decodeL l = ((candR l n).toNat, n) ∧ 0 ≤ candR l n := by
  unfold testR at h
  rw [Bool.and_eq_true, decide_eq_true_eq] at h
  obtain ⟨hv, he⟩ := h
  have hl : l = encodeRune (candR l n) ++ l.drop n := by rw [he, List.take_append_drop]
  have hlen : (encodeRune (candR l n)).length = n := by rw [he, List.length_take]; omega
  have hd := decode_encode (candR l n) (l.drop n) hv
  have hb := not_bad_enc (candR l n) (l.drop n) hv
  rw [← hl] at hd hb
  rw [hlen] at hd
  exact ⟨hb, hd, valid_nonneg hv⟩
/-- The rune that the bytes begin with stands its test. -/
theorem decode_test (l : List UInt8) (hne : l ≠ []) (hb : badB l = false) : testR l (decodeL l).2 = true ∧ candR l (decodeL l).2 = ((decodeL l).1 : Int) ∧ 1 ≤ (decodeL l).2 ∧ (decodeL l).2 ≤ 4 ∧ (decodeL l).2 ≤ l.length := by
  obtain ⟨r, t, hr, rfl⟩ := good_form l hne hb
  rw [decode_encode r t hr]
  have hlen := encodeRune_len r
  have h0 := valid_nonneg hr
  have hc : candR (encodeRune r ++ t) (encodeRune r).length = r := by
    obtain ⟨n, rfl, ⟨h1, e⟩ | ⟨h1, h2, e⟩ | ⟨h1, h2, e⟩ | ⟨h1, h2, e⟩⟩ := enc_forms r hr
    · rw [e]; simp only [List.length_cons, List.length_nil, Nat.reduceAdd]; rw [cand1]
      simp only [List.cons_append, List.getD_cons_zero]; rw [u8n _ (by omega)]
    · rw [e]; simp only [List.length_cons, List.length_nil, Nat.reduceAdd]; rw [cand2]
      simp only [List.cons_append, List.getD_cons_zero, List.getD_cons_succ]; rw [u8n _ (by omega), u8n _ (by omega)]; omega
    · rw [e]; simp only [List.length_cons, List.length_nil, Nat.reduceAdd]; rw [cand3]
      simp only [List.cons_append, List.getD_cons_zero, List.getD_cons_succ]; rw [u8n _ (by omega), u8n _ (by omega), u8n _ (by omega)]; omega
    · rw [e]; simp only [List.length_cons, List.length_nil, Nat.reduceAdd]; rw [cand4]
      simp only [List.cons_append, List.getD_cons_zero, List.getD_cons_succ]; rw [u8n _ (by omega), u8n _ (by omega), u8n _ (by omega), u8n _ (by omega)]; omega
  refine ⟨?_, ?_, hlen.1, hlen.2, by simp⟩
  · unfold testR; rw [hc, hr]; simp
  · simp only; rw [hc]; omega

/-- The answer: the rune and how many bytes it has; nothing of bytes that begin with none. -/
def firstR (l : List UInt8) : Int := if badB l then 0 else (decodeL l).1
def firstN (l : List UInt8) : Nat := if badB l then 0 else (decodeL l).2

theorem first_none (l : List UInt8) (hne : 0 < l.length) (h : ∀ j, 1 ≤ j → j ≤ 4 → j ≤ l.length → testR l j = false) : firstR l = 0 ∧ firstN l = 0 := by
  have hb : badB l = true := by
    cases hb : badB l with
    | true => rfl
    | false =>
      obtain ⟨h1, _, h2, h3, h4⟩ := decode_test l (List.length_pos_iff.1 hne) hb
      rw [h _ h2 h3 h4] at h1; cases h1
  simp [firstR, firstN, hb]
theorem part_bd (l : List UInt8) (n k : Nat) (hk : k ≤ 2) : -1000000 ≤ partR l n k ∧ partR l n k ≤ 1060000 := by
  have b0 := byte_lt (l.getD 0 0)
  have b1 := byte_lt (l.getD 1 0)
  have b2 := byte_lt (l.getD 2 0)
  have h0 : -240 ≤ partR l n 0 ∧ partR l n 0 ≤ 255 := by simp only [partR]; split <;> (try split) <;> (try split) <;> omega
  have : k = 0 ∨ k = 1 ∨ k = 2 := by omega
  rcases this with rfl | rfl | rfl
  · omega
  · simp only [partR, Nat.zero_add] at h0 ⊢; omega
  · simp only [partR, Nat.zero_add, Nat.reduceAdd] at h0 ⊢; omega
theorem byte_at (s : ByteArray) (k : Nat) (h : k < s.size) : s[k] = s.data.toList.getD k 0 := by
  rw [List.getD_eq_getElem?_getD, List.getElem?_eq_getElem (by rw [← Lib.size_eq]; exact h)]
  rfl

theorem test_next {l : List UInt8} {n : Nat} (h : ∀ j, 1 ≤ j → j < n → testR l j = false) (hn : testR l n = false) : ∀ j, 1 ≤ j → j < n + 1 → testR l j = false := by
  intro j h1 h2
  by_cases e : j = n
  · rw [e]; exact hn
  · exact h j h1 (by omega)
/-- A rune's bytes, and these as a string, each under one name. -/
theorem bytes_conv (r : Int) (h : Lib.validRune r = true) : ∃ (E : ByteArray) (O : Obj) (k : Nat),
    (∀ w : World, Calls Tryd.prog 46 #[.int .i32 r] w fun e w' => e = .returned (.slice (some ⟨w.heap.size, 0, none⟩) k k) ∧ w' = w.alloc O) ∧
    (∀ w : World, (convert 67 9 (.slice (some ⟨w.heap.size, 0, none⟩) k k)).run Tryd.prog (w.alloc O) = .ok (.string E) (w.alloc O) ∧
      (convert 67 9 (.slice (some ⟨w.heap.size, 0, none⟩) k k)).run Tryd.prog (w.alloc O).drew = .ok (.string E) (w.alloc O).drew) ∧
    Hid (E.data.toList = encodeRune r) := by
  refine ⟨⟨(encodeRune r).toArray⟩, _, _, fun w => bytes_any r w h, fun w => ?_, Lib.hid (by simp)⟩
  have hc : ∀ (w' : World), (∀ a, w'.cell? a = (w.alloc (.cells (byteCells (encodeRune r)).toArray 5)).cell? a) → ∀ j (hj : j < (encodeRune r).length), w'.cell? ((⟨w.heap.size, 0, none⟩ : Addr).add j) = some (.int .u8 ((encodeRune r)[j].toNat : Int)) := by
    intro w' hw j hj
    have e : ((⟨w.heap.size, 0, none⟩ : Addr).add j) = ⟨w.heap.size, 0 + j, none⟩ := by
      unfold Addr.add
      by_cases h : j = 0
      · subst h; rfl
      · simp [h]
    rw [hw, e, cell_of_row _ _ _ _ _ _ (heap_alloc_new w _)]
    simp [byteCells, hj]
  exact ⟨run_convert_bytes_back (P := Tryd.prog) _ 67 9 5 _ _ _ Tryd.underlying67 Tryd.underlying5 Tryd.underlying9 (hc _ (fun _ => rfl)),
    run_convert_bytes_back (P := Tryd.prog) _ 67 9 5 _ _ _ Tryd.underlying67 Tryd.underlying5 Tryd.underlying9 (hc _ (fun _ => rfl))⟩

set_option maxRecDepth 100000 in
set_option maxHeartbeats 4000000 in
theorem first_any (s : ByteArray) (w : World) (hs : s.size ≤ maxLen) (hpos : 0 < s.size) :
    Calls Tryd.prog 48 #[.string s] w fun e w' => e = .returned (.tuple #[.int .i32 (firstR s.data.toList), .int .i64 (firstN s.data.toList)]) ∧ Below w.heap.size w w' := by
  unfold maxLen at hs
  obtain ⟨R, hR⟩ : ∃ R, firstR s.data.toList = R := ⟨_, rfl⟩
  obtain ⟨K, hK⟩ : ∃ K, firstN s.data.toList = K := ⟨_, rfl⟩
  rw [hR, hK]
  have HR := Lib.hid hR; clear hR
  have HK := Lib.hid hK; clear hK
  go_enter Tryd.func48, Tryd.ntmps48
  go_wp2
  go_loopw [4] (fun s4 wr => ∃ n : Nat, s4 = .int .i64 n ∧ 1 ≤ n ∧ n ≤ 5 ∧ n ≤ s.size + 1 ∧ Below w.heap.size w wr ∧ Hid (∀ j, 1 ≤ j → j < n → testR s.data.toList j = false)) (fun s4 _ => 5 - (RowKit.intOf s4).toNat)
  case atStart => exact ⟨1, rfl, by omega, by omega, by omega, Below.refl _ _, Lib.hid (fun j h1 h2 => by omega)⟩
  case round =>
    obtain ⟨n, rfl, hn1, hn5, hns, hB, HT⟩ := hrel
    obtain ⟨W1, rfl⟩ : ∃ W1, W1 = wr := ⟨wr, rfl⟩
    by_cases h4 : n ≤ 4
    · by_cases hsz : n ≤ s.size
      · have hx0 := byte_at s 0 (by omega)
        obtain ⟨x0, hx⟩ : ∃ x0, s.data.toList.getD 0 0 = x0 := ⟨_, rfl⟩
        rw [hx] at hx0
        have HX := Lib.hid hx; clear hx
        have hb0 := byte_lt x0
        have i0 : (0 : Int) < (s.size : Int) := by omega
        have h0p : partR s.data.toList n 0 = (x0.toNat : Int) - (if n = 2 then 192 else if n = 3 then 224 else if n = 4 then 240 else 0) := by simp only [partR, HX.out]
        have : n = 1 ∨ n = 2 ∨ n = 3 ∨ n = 4 := by omega
        have q1 : decide ((n : Int) ≤ 4) = true := by simp; omega
        have q2 : decide ((n : Int) ≤ (s.size : Int)) = true := by simp; omega
        have hcan : candR s.data.toList n = partR s.data.toList n (n - 1) := rfl
        rcases this with e | e | e | e
        all_goals
          simp only [e, Nat.reduceEqDiff, if_true, if_false] at h0p
        all_goals rw [← e] at h0p
        all_goals
          have H0 := Lib.hid h0p
          clear h0p
          (try have t2 : ((n : Int) == 2) = true := by simp; omega)
          (try have f2 : ((n : Int) == 2) = false := by simp; omega)
          (try have t3 : ((n : Int) == 3) = true := by simp; omega)
          (try have f3 : ((n : Int) == 3) = false := by simp; omega)
          (try have t4 : ((n : Int) == 4) = true := by simp; omega)
          (try have f4 : ((n : Int) == 4) = false := by simp; omega)
          have HE := Lib.hid e
          clear e
          go_wp2
        all_goals
          go_loopw [5, 6] (fun s5 s6 wr2 => ∃ (i : Nat) (p : Int), s6 = .int .i64 i ∧ s5 = .int .i32 p ∧ 1 ≤ i ∧ i ≤ n ∧ W1 = wr2 ∧ Hid (partR s.data.toList n (i - 1) = p)) (fun _ s6 _ => n - (RowKit.intOf s6).toNat)
          case atStart => exact ⟨1, _, rfl, rfl, by omega, by omega, rfl, Lib.hid (by rw [H0.out]; try omega)⟩
          case round =>
            obtain ⟨i, p, rfl, rfl, hi1, hi2, rfl, HP⟩ := hrel
            by_cases hlt : i < n
            · have hbp := part_bd s.data.toList n (i - 1) (by omega)
              rw [HP.out] at hbp
              have hxi := byte_at s i (by omega)
              obtain ⟨xi, hx⟩ : ∃ xi, s.data.toList.getD i 0 = xi := ⟨_, rfl⟩
              rw [hx] at hxi
              have hbi := byte_lt xi
              have hnext : partR s.data.toList n (i - 1 + 1) = p * 64 + (xi.toNat : Int) - 128 := by simp only [partR]; rw [HP.out, show i - 1 + 1 = i by omega, hx]
              rw [show i - 1 + 1 = i + 1 - 1 by omega] at hnext
              have HN := Lib.hid hnext
              clear hx hnext
              have j1 : (i : Int) < (s.size : Int) := by omega
              obtain ⟨p1, p2⟩ := hbp
              go_wp2
              go_roundw
              case rel => exact ⟨i + 1, _, by go_num, rfl, by omega, by omega, by first | rfl | trivial, Lib.hid (by rw [HN.out])⟩
              case measure => simp [RowKit.intOf]; omega
            · obtain rfl : n = i := by omega
              go_wp2
              clear hx0 hb0 H0 i0
              (try clear t2); (try clear f2); (try clear t3); (try clear f3); (try clear t4); (try clear f4)
              cases hv : Lib.validRune p
              · have c1 := isRune_any p
                rw [hv] at c1
                have C1 := Lib.hid c1
                have HV := Lib.hid hv
                clear c1 hv
                go_quiet ((go_at_call 31; exact Calls.quiet_of_same ((C1.out _).mono fun e w' h => ⟨h.1, h.2.symm⟩)))
                go_wp2
                go_roundw
                case rel => exact ⟨n + 1, by go_num, by omega, by omega, by omega, below_draws hB _, Lib.hid (test_next HT.out (by unfold testR; rw [hcan, HP.out, HV.out]; rfl))⟩
                case measure => simp [RowKit.intOf]; omega
              · have c1 := isRune_any p
                rw [hv] at c1
                have C1 := Lib.hid c1
                have HV := Lib.hid hv
                clear c1 hv
                obtain ⟨E, O, k, c2, hcv, hE⟩ := bytes_conv p HV.out
                have C2 := Lib.hid c2
                clear c2
                have hcv1 := (hcv W1).1
                have hcv2 := (hcv W1).2
                clear hcv
                go_region_with (first | (go_at_call 31; refine (C1.out _).mono ?_; rintro e w' ⟨rfl, rfl⟩) | (go_at_call 46; refine (C2.out _).mono ?_; rintro e w' ⟨rfl, rfl⟩))
                clear hcv1 hcv2 C1 C2
                have hlt : (s.extract 0 n).toList = s.data.toList.take n := by rw [Lib.toList_data, Lib.extract_data]; simp
                have HL := Lib.hid hlt
                clear hlt
                have hB2 : Below w.heap.size w (W1.alloc O).drew := (hB.alloc hB.size _).drew
                have hEt := Lib.toList_data E
                have HE2 := Lib.hid hEt
                clear hEt
                cases hq : (E.toList == (s.extract 0 n).toList)
                · have HQ := Lib.hid hq
                  go_wp2
                  go_roundw
                  case rel =>
                    refine ⟨n + 1, by go_num, by omega, by omega, by omega, hB2, Lib.hid (test_next HT.out ?_)⟩
                    have h1 := HQ.out
                    rw [HE2.out, hE.out, HL.out] at h1
                    have h2 : ¬ Lib.encodeRune p = s.data.toList.take n := by simpa using h1
                    unfold testR
                    rw [hcan, HP.out, HV.out]
                    simp [h2]
                  case measure => simp [RowKit.intOf]; omega
                · have HQ := Lib.hid hq
                  go_wp2
                  go_ret2
                  have h1 := HQ.out
                  rw [HE2.out, hE.out, HL.out] at h1
                  have h2 : Lib.encodeRune p = s.data.toList.take n := by simpa using h1
                  have ht : testR s.data.toList n = true := by
                    unfold testR
                    rw [hcan, HP.out, HV.out]
                    simp [h2]
                  obtain ⟨g1, g2, g3⟩ := test_decode s.data.toList n (by rw [← Lib.size_eq]; exact hsz) ht
                  rw [hcan, HP.out] at g2 g3
                  have r1 : R = p := by rw [← HR.out]; unfold firstR; rw [g1, g2]; simp; omega
                  have r2 : K = n := by rw [← HK.out]; unfold firstN; rw [g1, g2]; simp
                  exact ⟨by rw [r1, r2]; rfl, hB2⟩
      · have q1 : decide ((n : Int) ≤ 4) = true := by simp; omega
        have q2 : decide ((n : Int) ≤ (s.size : Int)) = false := by simp; omega
        obtain ⟨r1, r2⟩ := first_none s.data.toList (by rw [← Lib.size_eq]; exact hpos) (fun j a b c => HT.out j a (by rw [← Lib.size_eq] at c; omega))
        go_wp2
        go_ret2
        exact ⟨by rw [← HR.out, ← HK.out, r1, r2]; rfl, hB⟩
    · have q1 : decide ((n : Int) ≤ 4) = false := by simp; omega
      obtain ⟨r1, r2⟩ := first_none s.data.toList (by rw [← Lib.size_eq]; exact hpos) (fun j a b c => HT.out j a (by omega))
      go_wp2
      go_ret2
      exact ⟨by rw [← HR.out, ← HK.out, r1, r2]; rfl, hB⟩
end Go.Proofs.YthigbnklekdemaaDoor
