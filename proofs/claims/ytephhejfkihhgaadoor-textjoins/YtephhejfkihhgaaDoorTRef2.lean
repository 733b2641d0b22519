/- errataref02.Tokens, Check, Join: the document's answers. -/
import Derived.Test.YtephhejfkihhgaaDoorTRef
namespace Go.Proofs.YtephhejfkihhgaaDoor
open Go.RowKit Go.Shelf

theorem refSpans_own (s : ByteArray) (w : World) : Calls Tryd.prog 12 #[.string s] w (SpansPost s w) := by
  by_cases hd : docErr s.data.toList = 0
  · exact refSpans_yes s w (doc_ok s hd).1 (doc_ok s hd).2
  · exact refSpans_no s w hd
theorem refSpans_any (s : ByteArray) (w : World) :
    Calls Tryd.prog 12 #[.string s] w fun e w' => ∃ A c, e = .returned (.tuple #[.slice A (docSpans s.data.toList).length c, .int .i64 (docErr s.data.toList)]) ∧ SRuns w' (.slice A (docSpans s.data.toList).length c) (docSpans s.data.toList) ∧ Below w.heap.size w w' := by
  refine (refSpans_own s w).mono ?_
  rintro e w' ⟨v, rfl, hrow, hb⟩
  have hr : SRuns w' v (docSpans s.data.toList) := SRuns.of_own hrow
  have hr' := hr
  obtain ⟨A, c, rfl, _⟩ := hr'
  exact ⟨A, c, rfl, hr, hb⟩

theorem docSpans_in (s : ByteArray) : ∀ p ∈ docSpans s.data.toList, 0 ≤ p.1 ∧ p.1 ≤ p.2.1 ∧ p.2.1 ≤ (s.size : Int) := by
  unfold docSpans
  by_cases hd : docErr s.data.toList = 0
  · rw [if_pos hd, Lib.size_eq]; exact spans_in _ (doc_ok s hd).2
  · rw [if_neg hd]; intro p hp; simp at hp
theorem docSpans_len (s : ByteArray) : (docSpans s.data.toList).length ≤ 1048576 := by
  unfold docSpans
  by_cases hd : docErr s.data.toList = 0
  · rw [if_pos hd]; have := spansL_len s.data.toList; rw [← Lib.size_eq] at this; have := (doc_ok s hd).1; omega
  · rw [if_neg hd]; simp
theorem docTokS_eq (s : ByteArray) : docTokS s = tokS s (docSpans s.data.toList) := by
  unfold docTokS docSpans
  by_cases hd : docErr s.data.toList = 0
  · rw [if_pos hd, if_pos hd]
  · rw [if_neg hd, if_neg hd]; rfl
theorem tokS_take (s : ByteArray) (l : List Sp) (k : Nat) (hk : k < l.length) : tokS s (l.take (k + 1)) = tokS s (l.take k) ++ (if (l.getD k sp0).2.2 then [s.extract (l.getD k sp0).1.toNat (l.getD k sp0).2.1.toNat] else []) := by
  rw [List.take_succ_eq_append_getElem hk, tokS_snoc]
  simp [List.getD_eq_getElem?_getD, hk]

set_option maxRecDepth 100000 in
set_option maxHeartbeats 2000000 in
theorem refTokens_own (s : ByteArray) (w : World) : Calls Tryd.prog 14 #[.string s] w (TokensPost s w) := by
  unfold TokensPost
  have c := refSpans_any s w
  have hin := docSpans_in s
  have hll := docSpans_len s
  rw [docTokS_eq]
  obtain ⟨l, hl⟩ : ∃ l, docSpans s.data.toList = l := ⟨_, rfl⟩
  obtain ⟨er, her⟩ : ∃ er, docErr s.data.toList = er := ⟨_, rfl⟩
  rw [hl, her] at c
  rw [hl] at hin hll ⊢
  rw [her]
  obtain ⟨n, hn⟩ : ∃ n, l.length = n := ⟨_, rfl⟩
  rw [hn] at c hll
  have Hn := Lib.hid hn
  have C := Lib.hid c
  have HIN := Lib.hid hin
  obtain ⟨fin, hfin⟩ : ∃ fin, tokS s l = fin := ⟨_, rfl⟩
  rw [hfin]
  have HF := Lib.hid hfin
  clear c hl her hn hin hfin
  go_enter Tryd.func14, Tryd.ntmps14
  go_wp2_with fail
  refine C.out.mono ?_
  rintro e w1 ⟨A, c, rfl, hr, hb⟩
  obtain ⟨A', c', e', hxc, ⟨hxm, _⟩, hxx⟩ := hr
  rw [Hn.out] at e' hxc hxx
  obtain ⟨rfl, rfl⟩ : A = A' ∧ c = c' := by simpa using e'
  unfold maxLen at hxm
  have HX := Lib.hid hxx
  clear e' hxx
  go_wp2
  go_loopw [6, 16] (fun s6 s16 wr => ∃ (k m : Nat) (out : List ByteArray), k ≤ n ∧ s16 = .int .i64 k ∧ wr.ownsRow w1.heap.size 9 1 s6 m (out.map Value.string) ∧ m ≤ k ∧ Below w1.heap.size w1 wr ∧ Hid (out = tokS s (l.take k) ∧ m = out.length)) (fun _ s16 _ => n - (intOf s16).toNat)
  case atStart => exact ⟨0, 0, [], Nat.zero_le _, rfl, World.ownsRow_nil _ _ _ _, Nat.le_refl _, Below.refl _ _, Lib.hid ⟨rfl, rfl⟩⟩
  case round =>
    obtain ⟨k, m, out, hk, rfl, hrow, hmk, hB, HI⟩ := hrel
    obtain ⟨W1, rfl⟩ : ∃ W1, W1 = wr := ⟨wr, rfl⟩
    by_cases hlt : k < n
    · obtain ⟨b, o, rfl, hbb, hc1⟩ := HX.out (by omega)
      obtain ⟨e1, e2, e3⟩ := hc1 k hlt
      have g1 := (hB.cell (p := ⟨b, o + k * 3, none⟩) hbb).trans e1
      have g2 := (hB.cell (p := ⟨b, o + k * 3 + 1, none⟩) hbb).trans e2
      have g3 := (hB.cell (p := ⟨b, o + k * 3 + 2, none⟩) hbb).trans e3
      clear e1 e2 e3 hc1
      have t1 := tokS_take s l k (by rw [Hn.out]; exact hlt)
      have q := HIN.out (l.getD k sp0) (by rw [List.getD_eq_getElem?_getD, List.getElem?_eq_getElem (by rw [Hn.out]; exact hlt)]; simp)
      obtain ⟨⟨p1, p2, p3⟩, hp⟩ : ∃ p, l.getD k sp0 = p := ⟨_, rfl⟩
      have hp' : l.getD k (0, 0, false) = (p1, p2, p3) := hp
      rw [hp'] at g1 g2 g3
      rw [hp] at t1 q
      obtain ⟨q1, q2, q3⟩ := q
      dsimp only at q1 q2 q3 t1 g1 g2 g3
      have i1 : (k : Int) < (n : Int) := by omega
      clear hp hp'
      have hbp : Below W1.heap.size W1 (W1.alloc (.cells #[.int .i64 p1, .int .i64 p2, .bool p3] 43)) := (Below.refl _ _).alloc (Nat.le_refl _) _
      have hrowp := own_below hrow hbp
      have hBp : Below w1.heap.size w1 (W1.alloc (.cells #[.int .i64 p1, .int .i64 p2, .bool p3] 43)) := hB.trans (hbp.mono hB.size)
      cases p3
      · rw [if_neg (by simp), List.append_nil] at t1
        have T1 := Lib.hid t1
        clear t1
        go_wp2
        go_roundw
        case rel => exact ⟨k + 1, m, out, by omega, by go_num, hrowp, by omega, hBp, Lib.hid ⟨by rw [T1.out]; exact HI.out.1, HI.out.2⟩⟩
        case measure => simp [intOf]; omega
      · rw [if_pos rfl] at t1
        obtain ⟨X, hX⟩ : ∃ X, s.extract p1.toNat p2.toNat = X := ⟨_, rfl⟩
        rw [hX] at t1
        have T1 := Lib.hid t1
        obtain ⟨W2, hW2⟩ : ∃ W2, W1.alloc (.cells #[.int .i64 p1, .int .i64 p2, .bool true] 43) = W2 := ⟨_, rfl⟩
        have hsz2 : W2.heap.size = W1.heap.size + 1 := by rw [← hW2]; simp
        rw [hW2] at hrowp hBp
        have hbl : Below W2.heap.size W2 (W2.alloc (.cells #[.string X] 9)) := (Below.refl _ _).alloc (Nat.le_refl _) _
        obtain ⟨v', w3, hrun, hown', hgrow, hat⟩ := append_texts _ w1.heap.size _ m (out.map Value.string) (own_below hrowp hbl) _ [X] (truns_lit W2 X) (Nat.le_trans hBp.size hbl.size) (by simp; omega)
        obtain ⟨g', cap', rfl⟩ := ownsRow_succ hown'
        have hB3 : Below w1.heap.size w1 w3 := (hBp.trans (hbl.mono hBp.size)).grown hgrow (Nat.le_trans hBp.size hbl.size) (own_block hrowp)
        rw [← hW2] at hrun
        rw [World.size_alloc] at hrun
        have HR := Lib.hid hrun
        have HO : Hid (w3.ownsRow w1.heap.size 9 1 (.slice (some ⟨g', 0, none⟩) (m + 1) cap') (m + 1) ((out ++ [X]).map Value.string)) := Lib.hid (by simpa using hown')
        clear hrun hown' hgrow hat hbl hrowp t1 hW2 hsz2
        go_wp2_with (at_builtin; refine wpList_append_run (.tmp 22) (.tmp 29) 27 _ _ _ _ HR.out rfl rfl rfl rfl ?_)
        go_roundw
        case rel => exact ⟨k + 1, m + 1, out ++ [X], by omega, by go_num, HO.out, by omega, hB3, Lib.hid ⟨by rw [T1.out, HI.out.1], by rw [List.length_append, HI.out.2]; rfl⟩⟩
        case measure => simp [intOf]; omega
    · obtain rfl : n = k := by omega
      have hfin : out = fin := by rw [HI.out.1, List.take_of_length_le (by rw [Hn.out]; exact Nat.le_refl _)]; exact HF.out
      have hml : m = fin.length := by rw [HI.out.2, hfin]
      go_wp2
      go_ret2
      exact ⟨_, rfl, by rw [← hml, ← hfin]; exact own_base hrow hb.size, hb.trans (hB.mono hb.size)⟩
theorem refTokens_any (s : ByteArray) (w : World) :
    Calls Tryd.prog 14 #[.string s] w fun e w' => ∃ A c, e = .returned (.tuple #[.slice A (docTokS s).length c, .int .i64 (docErr s.data.toList)]) ∧ TRuns w' (.slice A (docTokS s).length c) (docTokS s) ∧ Below w.heap.size w w' := by
  refine (refTokens_own s w).mono ?_
  rintro e w' ⟨v, rfl, hrow, hb⟩
  have hr : TRuns w' v (docTokS s) := TRuns.of_own hrow
  have hr' := hr
  obtain ⟨A, c, rfl, _⟩ := hr'
  exact ⟨A, c, rfl, hr, hb⟩

theorem same2_self (u v : Value) (x : List Sp) (w : World) (hx : SRuns w u x) (hy : SRuns w v x) :
    Calls Tryd.prog 15 #[u, v] w fun e w' => e = .returned (.bool true) ∧ Below w.heap.size w w' := by
  have := same2_any u v x x w hx hy
  rw [decide_eq_true rfl] at this
  exact this.mono fun e w' h => ⟨h.1, h.2.below _⟩
end Go.Proofs.YtephhejfkihhgaaDoor
