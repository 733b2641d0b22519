/- errataref02.Spans, Tokens, Check: the document's answers, for every string. -/
import Derived.Test.YtephhejfkihhgaaDoorTOwn2
import Derived.Test.YtephhejfkihhgaaDoorRefEncode
namespace Go.Proofs.YtephhejfkihhgaaDoor
open Go.RowKit Go.Shelf

set_option maxRecDepth 100000 in
set_option maxHeartbeats 1000000 in
theorem refText_any (u : Value) (l : List Int) (w : World) (hu : Runs w u l) (hlen : l.length * 4 + 4 ≤ 140737488355328) :
    Calls Tryd.prog 28 #[u] w fun e w' => e = .returned (.string ⟨(encS l).toArray⟩) ∧ Below w.heap.size w w' := by
  have C := Lib.hid (refEncode_any u l w hu hlen)
  go_enter Tryd.func28, Tryd.ntmps28
  go_wp2_with fail
  refine C.out.mono ?_
  rintro e w1 ⟨rfl, hb⟩
  go_wp2
  go_ret
  exact ⟨rfl, hb⟩
theorem text_one (r : Int) (h : Lib.validRune r = true) : (⟨(encS [r]).toArray⟩ : ByteArray).size = rl r := by
  have : encS [r] = encL [r] := by unfold encS; rw [if_pos (by simp [allRunes, h])]
  rw [this, Lib.size_eq]; simp [encL, rl]

theorem own_base {w : World} {base base' : Nat} {e : TypeId} {size n : Nat} {v : Value} {xs : List Value} (h : w.ownsRow base e size v n xs) (hb : base' ≤ base) : w.ownsRow base' e size v n xs := by
  refine ⟨h.1, ?_⟩
  rcases h.2 with h0 | ⟨g, cap, cur, h1, h2, h3⟩
  · exact .inl h0
  · exact .inr ⟨g, cap, cur, h1, Nat.le_trans hb h2, h3⟩
/-- One rune more: the last piece grows, or a new one begins. -/
theorem sp_snoc (r : Int) (xs : List Int) : ∀ (f a : Nat) (b : Bool), ∃ (L0 : List Sp) (f' : Nat) (b' : Bool), sp f a b xs = L0 ++ [((f' : Int), ((a + (encL xs).length : Nat) : Int), b')] ∧
    sp f a b (xs ++ [r]) = if letterB r = b' then L0 ++ [((f' : Int), ((a + (encL xs).length + rl r : Nat) : Int), b')] else L0 ++ [((f' : Int), ((a + (encL xs).length : Nat) : Int), b'), (((a + (encL xs).length : Nat) : Int), ((a + (encL xs).length + rl r : Nat) : Int), letterB r)] := by
  induction xs with
  | nil =>
    intro f a b
    refine ⟨[], f, b, by simp [sp, encL], ?_⟩
    by_cases h : letterB r = b <;> simp [sp, encL, h]
  | cons q xs ih =>
    intro f a b
    have hl : (encL (q :: xs)).length = rl q + (encL xs).length := by rw [encL_cons, List.length_append]; rfl
    rw [hl, List.cons_append]
    unfold sp
    by_cases h : letterB q = b
    · rw [if_pos h, if_pos h]
      obtain ⟨L0, f', b', e1, e2⟩ := ih f (a + rl q) b
      refine ⟨L0, f', b', ?_, ?_⟩
      · rw [e1]; simp [Nat.add_assoc]
      · rw [e2]; simp [Nat.add_assoc]
    · rw [if_neg h, if_neg h]
      obtain ⟨L0, f', b', e1, e2⟩ := ih a (a + rl q) (letterB q)
      refine ⟨((f : Int), (a : Int), b) :: L0, f', b', ?_, ?_⟩
      · rw [e1]; simp [Nat.add_assoc]
      · rw [e2]
        by_cases h2 : letterB r = b' <;> simp [h2, Nat.add_assoc]
theorem spans_snoc (r : Int) (xs : List Int) (hne : xs ≠ []) : ∃ (L0 : List Sp) (f' : Nat) (b' : Bool), spansFrom 0 xs = L0 ++ [((f' : Int), (((encL xs).length : Nat) : Int), b')] ∧
    spansFrom 0 (xs ++ [r]) = if letterB r = b' then L0 ++ [((f' : Int), (((encL xs).length + rl r : Nat) : Int), b')] else spansFrom 0 xs ++ [((((encL xs).length : Nat) : Int), (((encL xs).length + rl r : Nat) : Int), letterB r)] := by
  cases xs with
  | nil => exact absurd rfl hne
  | cons q xs =>
    obtain ⟨L0, f', b', e1, e2⟩ := sp_snoc r xs 0 (0 + rl q) (letterB q)
    have hl : (encL (q :: xs)).length = 0 + rl q + (encL xs).length := by rw [encL_cons, List.length_append, Nat.zero_add]; rfl
    refine ⟨L0, f', b', ?_, ?_⟩
    · rw [hl]; exact e1
    · rw [hl]
      show sp 0 (0 + rl q) (letterB q) (xs ++ [r]) = if letterB r = b' then _ else sp 0 (0 + rl q) (letterB q) xs ++ _
      rw [e2, e1]
      by_cases h : letterB r = b' <;> simp [h]

set_option maxRecDepth 100000 in
set_option maxHeartbeats 1000000 in
theorem refSpans_no (s : ByteArray) (w : World) (hd : docErr s.data.toList ≠ 0) : Calls Tryd.prog 12 #[.string s] w (SpansPost s w) := by
  unfold SpansPost docSpans
  rw [if_neg hd]
  by_cases hA : 1048576 < s.size
  · have he : docErr s.data.toList = 5 := by unfold docErr; rw [← Lib.size_eq, if_pos hA]
    rw [he]
    have hA' : (1048576 : Int) < (s.size : Int) := by omega
    clear he hd
    go_enter Tryd.func12, Tryd.ntmps12
    go_wp2
    go_ret2
    exact ⟨_, rfl, World.ownsRow_nil _ _ _ _, Below.refl _ _⟩
  · have hv : Lib.validD s.data.toList = false := by
      cases h : Lib.validD s.data.toList with
      | false => rfl
      | true => exact absurd (doc_of s (by omega) h) hd
    have he := doc_bad s (by omega) hv
    rw [he]
    have c := refDecode_runs s w (by omega)
    rw [show decErr s.data.toList = 3 by simp [decErr, hv], show decRunes s.data.toList = [] by simp [decRunes, hv]] at c
    have C := Lib.hid c
    have hA' : ¬ (1048576 : Int) < (s.size : Int) := by omega
    clear c he hd hv
    go_enter Tryd.func12, Tryd.ntmps12
    go_wp2_with fail
    refine C.out.mono ?_
    rintro e w1 ⟨A, c, rfl, hr, hb⟩
    clear hr
    go_wp2
    go_ret2
    exact ⟨_, rfl, World.ownsRow_nil _ _ _ _, hb⟩

/-- The pieces of the first k runes. -/
theorem spans_take (xs : List Int) (k : Nat) (hk : k < xs.length) : ∃ r, xs.getD k 0 = r ∧ xs.take (k + 1) = xs.take k ++ [r] ∧ (encL (xs.take (k + 1))).length = (encL (xs.take k)).length + rl r ∧ r ∈ xs := by
  refine ⟨_, rfl, ?_, ?_, ?_⟩
  · rw [List.take_succ_eq_append_getElem hk]; simp [List.getD_eq_getElem?_getD, hk]
  · rw [List.take_succ_eq_append_getElem hk, encL_snoc]; simp [List.getD_eq_getElem?_getD, hk]
  · rw [List.getD_eq_getElem?_getD, List.getElem?_eq_getElem hk]; simp

set_option maxRecDepth 100000 in
set_option maxHeartbeats 4000000 in
theorem refSpans_yes (s : ByteArray) (w : World) (hs : s.size ≤ 1048576) (hv : Lib.validD s.data.toList = true) : Calls Tryd.prog 12 #[.string s] w (SpansPost s w) := by
  have hd := doc_of s hs hv
  unfold SpansPost docSpans
  rw [if_pos hd, hd]
  have c := refDecode_runs s w (by omega)
  rw [show decErr s.data.toList = 0 by simp [decErr, hv], show decRunes s.data.toList = items s.data.toList by simp [decRunes, hv]] at c
  have hrun := items_runes _ hv
  have hle := items_le s.data.toList
  have henc := congrArg List.length (enc_items _ hv)
  unfold spansL
  rw [← Lib.size_eq] at hle henc
  obtain ⟨xs, hxs⟩ : ∃ xs, items s.data.toList = xs := ⟨_, rfl⟩
  rw [hxs] at c hrun hle henc ⊢
  obtain ⟨n, hn⟩ : ∃ n, xs.length = n := ⟨_, rfl⟩
  rw [hn] at c hle
  have Hn := Lib.hid hn
  have C := Lib.hid c
  have HRU := Lib.hid hrun
  have HEN := Lib.hid henc
  have hA' : ¬ (1048576 : Int) < (s.size : Int) := by omega
  obtain ⟨fin, hfin⟩ : ∃ fin, spansFrom 0 xs = fin := ⟨_, rfl⟩
  rw [hfin]
  have HF := Lib.hid hfin
  clear c hd hv hxs hn hrun henc hfin
  go_enter Tryd.func12, Tryd.ntmps12
  go_wp2_with fail
  refine C.out.mono ?_
  rintro e w1 ⟨A, c, rfl, hr, hb⟩
  obtain ⟨A', c', e', hxc, ⟨hxm, _⟩, hxx⟩ := hr
  rw [Hn.out] at e' hxc hxx
  obtain ⟨rfl, rfl⟩ : A = A' ∧ c = c' := by simpa using e'
  unfold maxLen at hxm
  have HX := Lib.hid hxx
  clear e' hxx
  go_wp2
  go_loopw [6, 7, 25] (fun s6 s7 s25 wr => ∃ (k a m : Nat) (out : List Sp), k ≤ n ∧ s25 = .int .i64 k ∧ s7 = .int .i64 a ∧ a ≤ 1048576 ∧ wr.ownsRow w1.heap.size 43 3 s6 m (spCs out) ∧ m ≤ k ∧ Below w1.heap.size w1 wr ∧ Hid (out = spansFrom 0 (xs.take k) ∧ a = (encL (xs.take k)).length ∧ m = out.length)) (fun _ _ s25 _ => n - (intOf s25).toNat)
  case atStart => exact ⟨0, 0, 0, [], Nat.zero_le _, rfl, rfl, by omega, World.ownsRow_nil _ _ _ _, Nat.le_refl _, Below.refl _ _, Lib.hid ⟨by simp [spansFrom], by simp [encL], rfl⟩⟩
  case round =>
    obtain ⟨k, a, m, out, hk, rfl, rfl, ha, hrow, hmk, hB, HI⟩ := hrel
    obtain ⟨W1, rfl⟩ : ∃ W1, W1 = wr := ⟨wr, rfl⟩
    by_cases hlt : k < n
    · obtain ⟨b, o, rfl, hbb, hc1⟩ := HX.out (by omega)
      have e1 := (hB.cell (p := ⟨b, o + k, none⟩) hbb).trans (hc1 k hlt)
      obtain ⟨r, t1, t2, t3, t4⟩ := spans_take xs k (by rw [Hn.out]; exact hlt)
      rw [t1] at e1
      have hvr := HRU.out r t4
      have hrl := encodeRune_len r
      have hrl' : rl r = (Lib.encodeRune r).length := rfl
      rw [← hrl'] at hrl
      have hal : a + rl r ≤ 1048576 := by
        have h1 := HI.out.2.1
        have h2 : (encL (xs.take (k + 1))).length ≤ (encL xs).length := by
          conv => rhs; rw [← List.take_append_drop (k + 1) xs, encL_append, List.length_append]
          omega
        rw [HEN.out, t3, ← h1] at h2; omega
      have T2 := Lib.hid t2; have T3 := Lib.hid t3
      have hba : Below W1.heap.size W1 (W1.alloc (.cells #[.int .i32 r] 21)) := (Below.refl _ _).alloc (Nat.le_refl _) _
      have ct := refText_any _ [r] (W1.alloc (.cells #[.int .i32 r] 21)) (runs_lit W1 r) (by simp)
      have hts := text_one r hvr
      obtain ⟨X, hX⟩ : ∃ X : ByteArray, (⟨(encS [r]).toArray⟩ : ByteArray) = X := ⟨_, rfl⟩
      rw [hX] at ct hts
      have CT := Lib.hid ct
      obtain ⟨q, hq⟩ : ∃ q, rl r = q := ⟨_, rfl⟩
      rw [hq] at hts hal hrl T3
      obtain ⟨lb, hlb⟩ : ∃ lb, letterB r = lb := ⟨_, rfl⟩
      have cl := refLetter_any r
      rw [hlb] at cl
      have CL := Lib.hid cl
      have HLB := Lib.hid hlb
      have i1 : (k : Int) < (n : Int) := by omega
      have HQ := Lib.hid hq
      clear ct cl hX hlb hq t1 t2 t3 t4 hc1 hvr hrl'
      go_wp2_with fail
      refine CT.out.mono ?_
      rintro e w2 ⟨rfl, hb2⟩
      have hb12 : Below W1.heap.size W1 w2 := hba.trans (hb2.mono hba.size)
      have hrow2 := own_below hrow hb12
      have hB2 : Below w1.heap.size w1 w2 := hB.trans (hb12.mono hB.size)
      clear hrow hb12 hba hb2 hB
      obtain ⟨A6, c6, rfl⟩ : ∃ A6 c6, u6 = .slice A6 m c6 := by
        rcases hrow2.2 with ⟨e1, e2⟩ | ⟨g, cap, _, e1, _⟩
        · exact ⟨none, 0, by rw [e1, e2]⟩
        · exact ⟨_, cap, e1⟩
      by_cases hk0 : k = 0
      · subst hk0
        obtain rfl : m = 0 := by omega
        have hnew : spansFrom 0 (xs.take (0 + 1)) = out ++ [((a : Int), (a : Int) + (q : Int), lb)] ∧ a + q = (encL (xs.take (0 + 1))).length := by
          obtain ⟨g1, g2, g3⟩ := HI.out
          simp only [List.take_zero] at g1 g2 T2 T3
          have ho : out = [] := g1
          have ha0 : a = 0 := by rw [g2]; rfl
          rw [T3.out, T2.out, ho, ha0]
          refine ⟨?_, by simp [encL]⟩
          show sp 0 (0 + rl r) (letterB r) [] = _
          rw [HQ.out, HLB.out]; simp [sp]
        have HN := Lib.hid hnew
        clear hnew
        obtain ⟨i0, hi, hz0, hz1, hz2⟩ := info_parts info_sp
        have hbl : Below w2.heap.size w2 (w2.alloc (.cells #[.int .i64 (a : Int), .int .i64 ((a : Int) + (q : Int)), .bool lb] 43)) := (Below.refl _ _).alloc (Nat.le_refl _) _
        obtain ⟨v', w3, hrun, hown', hgrow, _, hat⟩ := run_append_own_at (P := Tryd.prog) (w2.alloc (.cells #[.int .i64 (a : Int), .int .i64 ((a : Int) + (q : Int)), .bool lb] 43)) w1.heap.size 23 23 43 i0 _ 3 24 Tryd.underlying23 hi hz0 hz1 hz2 rfl (by decide) _ 0 (spCs out) (own_below hrow2 hbl) ⟨w2.heap.size, 0, none⟩ 1 1 (spC ((a : Int), (a : Int) + (q : Int), lb)) rfl (sp_cells w2 ((a : Int), (a : Int) + (q : Int), lb)) (sp_one _) (by unfold maxLen; omega) (by omega) (Nat.le_trans hB2.size hbl.size)
        obtain ⟨g', cap', rfl⟩ := ownsRow_succ hown'
        have hB3 : Below w1.heap.size w1 w3 := (hB2.trans (hbl.mono hB2.size)).grown hgrow (Nat.le_trans hB2.size hbl.size) (own_block hrow2)
        rw [← spCs_snoc] at hown'
        have HR := Lib.hid hrun
        have HO := Lib.hid hown'
        clear hrun hown' hgrow hat hbl hrow2
        go_wp2_with (first
          | (go_at_call 29; refine (CL.out _).mono ?_; rintro e w' ⟨rfl, rfl⟩)
          | (at_builtin; refine wpList_append_run (.tmp 58) (.tmp 65) 23 _ _ _ _ HR.out rfl rfl rfl rfl ?_))
        go_roundw
        case rel => exact ⟨0 + 1, a + q, 0 + 1, _, by omega, by go_num, by go_num, by omega, HO.out, by omega, hB3, Lib.hid ⟨HN.out.1.symm, HN.out.2, by rw [List.length_append, HI.out.2.2]; rfl⟩⟩
        case measure => simp [intOf]; omega
      · obtain ⟨L0, f', b', s1, s2⟩ := spans_snoc r (xs.take k) (by intro e; have := congrArg List.length e; rw [List.length_take, Hn.out] at this; simp at this; omega)
        have hout : out = L0 ++ [((f' : Int), (a : Int), b')] := by rw [HI.out.1, s1, HI.out.2.1]
        have hml : m = L0.length + 1 := by rw [HI.out.2.2, hout]; simp
        rw [← T2.out, HQ.out, HLB.out, ← HI.out.2.1, ← HI.out.1] at s2
        obtain ⟨m0, hm0⟩ : ∃ m0, L0.length = m0 := ⟨_, rfl⟩
        rw [hm0] at hml
        subst hml
        have hne : (encL (xs.take (k + 1))).length = a + q := by rw [T3.out, HI.out.2.1]
        have HNE := Lib.hid hne
        have HS2 := Lib.hid s2
        have hgd : out.getD m0 sp0 = ((f' : Int), (a : Int), b') := by rw [hout, ← hm0]; simp [List.getD_eq_getElem?_getD]
        have hol : m0 < out.length := by rw [hout, ← hm0]; simp
        obtain ⟨g, cap, e6⟩ := ownsRow_succ hrow2
        simp only [Value.slice.injEq, true_and] at e6
        obtain ⟨rfl, rfl⟩ := e6
        have hcell : w2.cell? ⟨g, m0 * 3 + 2, none⟩ = some (.bool b') := own_cell hrow2 (m0 * 3 + 2) (by omega) _ (by rw [spCs_at out m0 2 hol (by decide)]; show (spC (out.getD m0 sp0))[2]? = _; rw [hgd]; rfl)
        have hcell1 : w2.cell? ⟨g, m0 * 3 + 1, none⟩ = some (.int .i64 (a : Int)) := own_cell hrow2 (m0 * 3 + 1) (by omega) _ (by rw [spCs_at out m0 1 hol (by decide)]; show (spC (out.getD m0 sp0))[1]? = _; rw [hgd]; rfl)
        have hfz := own_frozen hrow2 (m0 * 3 + 1)
        have hgat := own_at hrow2
        have hd0 : (0 : Int) < ((m0 : Int) + 1) := by omega
        clear s1 s2 hne
        by_cases hbb' : b' = lb
        · have hq1 : (b' == lb) = true := by simpa using hbb'
          have hset := own_set hrow2 (m0 * 3 + 1) (by omega) (.int .i64 ((a : Int) + (q : Int)))
          have hl2 : spansFrom 0 (xs.take (k + 1)) = out.set m0 ((f' : Int), (a : Int) + (q : Int), b') := by
            rw [HS2.out, if_pos hbb'.symm, hout, ← hm0]; simp
          rw [spCs_set out m0 1 ((f' : Int), (a : Int) + (q : Int), b') _ hol (by decide) (by rw [hgd]; rfl)] at hset
          have HSET := Lib.hid hset
          have HL2 := Lib.hid hl2
          have HOL : Hid (m0 + 1 = (out.set m0 ((f' : Int), (a : Int) + (q : Int), b')).length) := Lib.hid (by rw [List.length_set, ← HI.out.2.2])
          clear hset hl2 hgd hol hout hrow2
          go_wp2_with (go_at_call 29; refine (CL.out _).mono ?_; rintro e w' ⟨rfl, rfl⟩)
          go_roundw
          case rel => exact ⟨k + 1, a + q, m0 + 1, _, by omega, by go_num, by go_num, by omega, HSET.out, by omega, hB2.setCell (p := ⟨g, m0 * 3 + 1, none⟩) hgat.1 _, Lib.hid ⟨HL2.out.symm, HNE.out.symm, HOL.out⟩⟩
          case measure => simp [intOf]; omega
        · have hq1 : (b' == lb) = false := by simpa using hbb'
          have hl2 : spansFrom 0 (xs.take (k + 1)) = out ++ [((a : Int), (a : Int) + (q : Int), lb)] := by
            rw [HS2.out, if_neg (fun e => hbb' e.symm)]; simp
          have HL2 := Lib.hid hl2
          have HOL : Hid (m0 + 1 + 1 = (out ++ [((a : Int), (a : Int) + (q : Int), lb)]).length) := Lib.hid (by rw [List.length_append, ← HI.out.2.2]; rfl)
          obtain ⟨i0, hi, hz0, hz1, hz2⟩ := info_parts info_sp
          have hbl : Below w2.heap.size w2 (w2.alloc (.cells #[.int .i64 (a : Int), .int .i64 ((a : Int) + (q : Int)), .bool lb] 43)) := (Below.refl _ _).alloc (Nat.le_refl _) _
          obtain ⟨v', w3, hrun, hown', hgrow, _, hat⟩ := run_append_own_at (P := Tryd.prog) (w2.alloc (.cells #[.int .i64 (a : Int), .int .i64 ((a : Int) + (q : Int)), .bool lb] 43)) w1.heap.size 23 23 43 i0 _ 3 24 Tryd.underlying23 hi hz0 hz1 hz2 rfl (by decide) _ (m0 + 1) (spCs out) (own_below hrow2 hbl) ⟨w2.heap.size, 0, none⟩ 1 1 (spC ((a : Int), (a : Int) + (q : Int), lb)) rfl (sp_cells w2 ((a : Int), (a : Int) + (q : Int), lb)) (sp_one _) (by unfold maxLen; omega) (by omega) (Nat.le_trans hB2.size hbl.size)
          obtain ⟨g', cap', rfl⟩ := ownsRow_succ hown'
          have hB3 : Below w1.heap.size w1 w3 := (hB2.trans (hbl.mono hB2.size)).grown hgrow (Nat.le_trans hB2.size hbl.size) (own_block hrow2)
          rw [← spCs_snoc] at hown'
          have HR := Lib.hid hrun
          have HO := Lib.hid hown'
          clear hrun hown' hgrow hat hbl hrow2
          clear hl2 hgd hol hout
          go_wp2_with (first
            | (go_at_call 29; refine (CL.out _).mono ?_; rintro e w' ⟨rfl, rfl⟩)
            | (at_builtin; refine wpList_append_run (.tmp 58) (.tmp 65) 23 _ _ _ _ HR.out rfl rfl rfl rfl ?_))
          go_roundw
          case rel => exact ⟨k + 1, a + q, m0 + 1 + 1, _, by omega, by go_num, by go_num, by omega, HO.out, by omega, hB3, Lib.hid ⟨HL2.out.symm, HNE.out.symm, HOL.out⟩⟩
          case measure => simp [intOf]; omega
    · obtain rfl : n = k := by omega
      have hfin : out = fin := by rw [HI.out.1, List.take_of_length_le (by rw [Hn.out]; exact Nat.le_refl _)]; exact HF.out
      have hml : m = fin.length := by rw [HI.out.2.2, hfin]
      go_wp2
      go_ret2
      exact ⟨_, rfl, by rw [← hml, ← hfin]; exact own_base hrow hb.size, hb.trans (hB.mono hb.size)⟩
end Go.Proofs.YtephhejfkihhgaaDoor
