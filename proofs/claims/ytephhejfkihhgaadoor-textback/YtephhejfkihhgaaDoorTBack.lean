/- The law TextBack, walked: joined with its own tokens a document is itself; with others of letters it has these, in the same places. -/
import Derived.Test.YtephhejfkihhgaaDoorTOwn
namespace Go.Proofs.YtephhejfkihhgaaDoor
open Go.RowKit Go.Shelf

/-- Join answers the text t at the document s, its pieces l, and the texts ts. -/
def JoinAt (s : ByteArray) (l : List Sp) (ts : List ByteArray) (t : ByteArray) : Prop := ∀ w u v, Okw w → SRuns w u l → TRuns w v ts → Calls Tryd.prog 17 #[.string s, u, v] w fun e w' => e = .returned (.tuple #[.string t, .int .i64 0]) ∧ Below w.heap.size w w'

theorem set_repl (t : ByteArray) (n k : Nat) (ts : List ByteArray) (hn : ts.length = n) (hk : k < n) : ((List.replicate k t ++ ts.drop k).map Value.string).set k (Value.string t) = (List.replicate (k + 1) t ++ ts.drop (k + 1)).map Value.string := by
  have h1 : ts.drop k = ts.getD k ⟨#[]⟩ :: ts.drop (k + 1) := by
    rw [List.drop_eq_getElem_cons (by omega)]; simp [List.getD_eq_getElem?_getD, hn, hk]
  rw [h1, ← List.map_set, List.set_append_right _ _ (by simp), List.replicate_succ']
  simp

set_option maxRecDepth 100000 in
set_option maxHeartbeats 4000000 in
theorem back2_ok (s t : ByteArray) (w : World) (h : Okw w) (hA : s.size ≤ 3000) (hB : t.size ≤ 50) (l l' : List Sp) (ts : List ByteArray) (n m : Nat) (b : ByteArray)
    (hn : Hid (l.length = n)) (hm : Hid (ts.length = m)) (hl' : Hid (l'.length = n)) (hmn : m ≤ 3001)
    (d1 : ∀ w, Okw w → Calls Tryd.prog 11 #[.string s] w fun e w' => ∃ A c, e = .returned (.tuple #[.slice A n c, .int .i64 0]) ∧ SRuns w' (.slice A n c) l ∧ Below w.heap.size w w')
    (d2 : ∀ w, Okw w → Calls Tryd.prog 13 #[.string s] w fun e w' => ∃ v, e = .returned (.tuple #[v, .int .i64 0]) ∧ w'.ownsRow w.heap.size 9 1 v m (ts.map Value.string) ∧ Below w.heap.size w w')
    (j1 : JoinAt s l ts s) (lt : LetAt t true) (j2 : JoinAt s l (List.replicate m t) b)
    (d3 : TokAt b (List.replicate m t) 0)
    (d4 : ∀ w, Okw w → Calls Tryd.prog 11 #[.string b] w fun e w' => ∃ A c, e = .returned (.tuple #[.slice A n c, .int .i64 0]) ∧ SRuns w' (.slice A n c) l' ∧ Below w.heap.size w w') :
    Calls Tryd.prog 6 #[.string s, .string t] w (RetTrue w) := by
  have C0 := Lib.hid (alive2_any w h)
  have hA' : decide ((3000 : Int) < (s.size : Int)) = false := by simp; omega
  have hB' : decide ((50 : Int) < (t.size : Int)) = false := by simp; omega
  go_enter Tryd.func6, Tryd.ntmps6
  go_wp2_with (go_at_call 10; refine C0.out.mono ?_; rintro e w0 ⟨rfl, hb0⟩)
  have h0 := h.below hb0
  refine (d1 _ h0).mono ?_
  rintro e w1 ⟨A1, c1, rfl, hr1, hb1⟩
  have h1 := h0.below hb1
  go_wp2_with fail
  refine (d2 _ h1).mono ?_
  rintro e w2 ⟨v, rfl, hown, hb2⟩
  have h2 := h1.below hb2
  have hr2 : TRuns w2 v ts := TRuns.of_own hown
  have hr2' := hr2
  obtain ⟨A2, c2, rfl, _, _⟩ := hr2'
  rw [hm.out] at hown hr2 ⊢
  have hB2 : Below w.heap.size w w2 := hb0.trans ((hb1.trans (hb2.mono hb1.size)).mono hb0.size)
  have hw12 := hb2.size
  go_wp2_with fail
  refine (j1 _ _ _ h2 (hr1.below hb2) hr2).mono ?_
  rintro e w3 ⟨rfl, hb3⟩
  have h3 := h2.below hb3
  have hown3 := hown.kept (grown_none hb3) (by cases hv : (Value.slice A2 m c2).ownBlock with
    | none => exact .inl rfl
    | some g => exact .inr (by simp))
  go_wp2_with fail
  refine (lt _ h3).mono ?_
  rintro e w4 ⟨rfl, hb4⟩
  have h4 := h3.below hb4
  have hown4 := hown3.kept (grown_none hb4) (by cases hv : (Value.slice A2 m c2).ownBlock with
    | none => exact .inl rfl
    | some g => exact .inr (by simp))
  have hb24 : Below w2.heap.size w2 w4 := hb3.trans (hb4.mono hb3.size)
  have hb14 : Below w1.heap.size w1 w4 := hb2.trans (hb24.mono hb2.size)
  have hB1 : Below w.heap.size w w1 := hb0.trans (hb1.mono hb0.size)
  have hxm : c2 ≤ maxLen := by
    obtain ⟨A, c, e, _, ⟨q, _⟩, _⟩ := hr2
    simp at e; omega
  have hmc : m ≤ c2 := by
    obtain ⟨A, c, e, q, _, _⟩ := hr2
    rw [hm.out] at e q
    simp at e; omega
  unfold maxLen at hxm
  clear hown hown3 hb0 hb2 hb3 hb4 h0 h2 h3 hr2 hB2 hb24
  have H14 := Lib.hid hb14
  have HO := Lib.hid hown4
  clear hb14 hown4
  go_wp2
  go_loopw [67] (fun s67 wr => ∃ k : Nat, k ≤ m ∧ s67 = .int .i64 k ∧ wr.ownsRow w1.heap.size 9 1 (.slice A2 m c2) m ((List.replicate k t ++ ts.drop k).map Value.string) ∧ Below w1.heap.size w1 wr) (fun s67 _ => m - (intOf s67).toNat)
  case atStart => exact ⟨0, Nat.zero_le _, rfl, by simpa using HO.out, H14.out⟩
  case round =>
    obtain ⟨k, hk, rfl, hrow, hbw⟩ := hrel
    by_cases hlt : k < m
    · obtain ⟨g, cap, e1⟩ : ∃ g cap, (Value.slice A2 m c2) = .slice (some ⟨g, 0, none⟩) m cap := by
        rcases hrow.2 with ⟨e1, _⟩ | ⟨g, cap, cur, e1, _⟩
        · simp at e1; omega
        · exact ⟨g, cap, e1⟩
      simp only [Value.slice.injEq, true_and] at e1
      obtain ⟨rfl, rfl⟩ := e1
      have hat := own_at hrow
      have hfz := own_frozen hrow k
      have hcl := own_cell hrow k (by omega) _ (List.getElem?_eq_getElem (by rw [List.length_map, List.length_append, List.length_replicate, List.length_drop, hm.out]; omega))
      have hset := own_set hrow k (by omega) (.string t)
      rw [set_repl t m k ts hm.out hlt] at hset
      have HS := Lib.hid hset
      obtain ⟨X, hX⟩ : ∃ X, wr.cell? ⟨g, k, none⟩ = some X := ⟨_, hcl⟩
      have i1 : (k : Int) < (m : Int) := by omega
      clear hset hcl hrow
      go_wp2
      go_roundw
      case rel => exact ⟨k + 1, by omega, by go_num, HS.out, hbw.setCell (p := ⟨g, k, none⟩) hat.1 _⟩
      case measure => simp [intOf]; omega
    · obtain rfl : m = k := by omega
      have hrow2 : wr.ownsRow w1.heap.size 9 1 (.slice A2 m c2) m ((List.replicate m t).map Value.string) := by
        have : ts.drop m = [] := List.drop_of_length_le (by rw [hm.out]; exact Nat.le_refl _)
        rw [this, List.append_nil] at hrow; exact hrow
      have hrt : TRuns wr (.slice A2 m c2) (List.replicate m t) := TRuns.of_own hrow2
      have h5 := h1.below hbw
      have hr5 := hr1.below hbw
      have hBw : Below w.heap.size w wr := hB1.trans (hbw.mono hB1.size)
      clear hrow hrow2
      go_wp2_with fail
      refine (j2 _ _ _ h5 hr5 hrt).mono ?_
      rintro e w6 ⟨rfl, hb6⟩
      have h6 := h5.below hb6
      go_wp2_with fail
      refine (d3 _ h6).mono ?_
      rw [List.length_replicate]
      rintro e w7 ⟨A7, c7, rfl, hr7, hb7⟩
      have h7 := h6.below hb7
      go_wp2_with fail
      refine (d4 _ h7).mono ?_
      rintro e w8 ⟨A8, c8, rfl, hr8, hb8⟩
      have hb58 : Below wr.heap.size wr w8 := hb6.trans ((hb7.trans (hb8.mono hb7.size)).mono hb6.size)
      have C9 := Lib.hid (texts_self _ _ _ w8 (hr7.below hb8) (hrt.below hb58))
      clear hr7 hr8 hrt
      go_wp2_with (go_at_call 16; refine C9.out.mono ?_; rintro e w9 ⟨rfl, hb9⟩)
      go_ret
      exact ⟨by simp, hBw.trans ((hb58.trans (hb9.mono hb58.size)).mono hBw.size)⟩

set_option maxRecDepth 100000 in
set_option maxHeartbeats 2000000 in
theorem back2_some (s t : ByteArray) (w : World) (h : Okw w) (hA : s.size ≤ 3000) (hB : t.size ≤ 50) (l : List Sp) (ts : List ByteArray) (er : Int)
    (d1 : SpAt s l er) (d2 : TokAt s ts er) (hc : (er ≠ 0) ∨ (er = 0 ∧ JoinAt s l ts s ∧ LetAt t false)) :
    Calls Tryd.prog 6 #[.string s, .string t] w (RetTrue w) := by
  have C0 := Lib.hid (alive2_any w h)
  have hA' : decide ((3000 : Int) < (s.size : Int)) = false := by simp; omega
  have hB' : decide ((50 : Int) < (t.size : Int)) = false := by simp; omega
  rcases hc with hne | ⟨rfl, j1, lt⟩
  · have q1 : (er == er) = true := by simp
    have q2 : (er == 0) = false := by simpa using hne
    go_enter Tryd.func6, Tryd.ntmps6
    go_wp2_with (go_at_call 10; refine C0.out.mono ?_; rintro e w0 ⟨rfl, hb0⟩)
    have h0 := h.below hb0
    refine (d1 _ h0).mono ?_
    rintro e w1 ⟨A1, c1, rfl, hr1, hb1⟩
    have h1 := h0.below hb1
    go_wp2_with fail
    refine (d2 _ h1).mono ?_
    rintro e w2 ⟨A2, c2, rfl, hr2, hb2⟩
    clear hr1 hr2
    go_wp2
    go_ret
    exact ⟨by simp, hb0.trans ((hb1.trans (hb2.mono hb1.size)).mono hb0.size)⟩
  · go_enter Tryd.func6, Tryd.ntmps6
    go_wp2_with (go_at_call 10; refine C0.out.mono ?_; rintro e w0 ⟨rfl, hb0⟩)
    have h0 := h.below hb0
    refine (d1 _ h0).mono ?_
    rintro e w1 ⟨A1, c1, rfl, hr1, hb1⟩
    have h1 := h0.below hb1
    go_wp2_with fail
    refine (d2 _ h1).mono ?_
    rintro e w2 ⟨A2, c2, rfl, hr2, hb2⟩
    have h2 := h1.below hb2
    go_wp2_with fail
    refine (j1 _ _ _ h2 (hr1.below hb2) hr2).mono ?_
    rintro e w3 ⟨rfl, hb3⟩
    have h3 := h2.below hb3
    clear hr1 hr2
    go_wp2_with fail
    refine (lt _ h3).mono ?_
    rintro e w4 ⟨rfl, hb4⟩
    go_wp2
    go_ret
    exact ⟨by simp, hb0.trans ((hb1.trans ((hb2.trans ((hb3.trans (hb4.mono hb3.size)).mono hb2.size)).mono hb1.size)).mono hb0.size)⟩

theorem joinAt_of (s : ByteArray) (ts : List ByteArray) (b : ByteArray) (hd : docErr s.data.toList = 0) (hlen : ts.length = cnt (docSpans s.data.toList) (docSpans s.data.toList).length) (ht : ∀ t ∈ ts, t.size ≤ 1048576)
    (hj : joinP s (docSpans s.data.toList) ts (docSpans s.data.toList).length = b.data.toList) : JoinAt s (docSpans s.data.toList) ts b := by
  intro w u v h hu hv
  have := join_ok s u v _ ts w h hu hv (by unfold checkB; simp [hd]) hlen ht
  rw [hj, mk_data b _ rfl] at this
  exact this
theorem tok_size (s : ByteArray) (hd : docErr s.data.toList = 0) : ∀ t ∈ docTokS s, t.size ≤ 1048576 := by
  intro t ht
  have hs := (doc_ok s hd).1
  unfold docTokS tokS at ht
  rw [if_pos hd] at ht
  obtain ⟨p, _, rfl⟩ := List.mem_map.1 ht
  simp; omega

set_option maxRecDepth 100000 in
set_option maxHeartbeats 1000000 in
theorem back2_walk (s t : ByteArray) (w : World) (h : Okw w) (hs : s.size ≤ maxLen) (ht : t.size ≤ maxLen) :
    Calls Tryd.prog 6 #[.string s, .string t] w (RetTrue w) := by
  by_cases hA : 3000 < s.size
  · have C0 := Lib.hid (alive2_any w h)
    unfold maxLen at hs ht
    go_enter Tryd.func6, Tryd.ntmps6
    go_wp2_with (go_at_call 10; refine C0.out.mono ?_; rintro e w0 ⟨rfl, hb0⟩)
    go_ret
    exact ⟨rfl, hb0⟩
  by_cases hB : 50 < t.size
  · have C0 := Lib.hid (alive2_any w h)
    unfold maxLen at hs ht
    have hA' : decide ((3000 : Int) < (s.size : Int)) = false := by simp; omega
    go_enter Tryd.func6, Tryd.ntmps6
    go_wp2_with (go_at_call 10; refine C0.out.mono ?_; rintro e w0 ⟨rfl, hb0⟩)
    go_ret
    exact ⟨rfl, hb0⟩
  by_cases hd : docErr s.data.toList = 0
  · have hbf := back_facts s hd
    have j1 := joinAt_of s (docTokS s) s hd hbf.2 (tok_size s hd) hbf.1
    cases hl : lettersB t.data.toList
    · have d1 := spAt s
      have d2 := tokAt s
      exact back2_some s t w h (by omega) (by omega) _ _ _ d1 d2 (.inr ⟨hd, j1, letAt t false ht hl⟩)
    · obtain ⟨b, l', e1, e2, e3, e4, e5⟩ := back_words s t hd (by omega) (by omega) hl
      have j2 := joinAt_of s (List.replicate (docTokS s).length t) b hd (by rw [List.length_replicate]; exact hbf.2) (fun x hx => by rw [List.eq_of_mem_replicate hx]; omega) e1
      have d3 := tokAt b
      rw [e3, e2] at d3
      have d4 := spAt b
      unfold SpAt at d4
      rw [e2, e4, e5] at d4
      have d1 := spAt s
      unfold SpAt at d1
      rw [hd] at d1
      have d2 : ∀ w, Okw w → Calls Tryd.prog 13 #[.string s] w (TokensPost s w) := fun w h => tokens_own s w h
      unfold TokensPost at d2
      rw [hd] at d2
      have hml : (docTokS s).length ≤ 3001 := by
        have := tok_le s
        rw [docTok_tk s hd]; omega
      exact back2_ok s t w h (by omega) (by omega) _ l' (docTokS s) _ _ b (Lib.hid rfl) (Lib.hid rfl) (Lib.hid e5) hml d1 d2 j1 (letAt t true ht hl) j2 d3 d4
  · have d1 := spAt s
    have d2 := tokAt s
    exact back2_some s t w h (by omega) (by omega) _ _ _ d1 d2 (.inl hd)
end Go.Proofs.YtephhejfkihhgaaDoor
