/- text.Spans: a document's pieces, or why it is none. -/
import Derived.Test.YtephhejfkihhgaaDoorTIter
namespace Go.Proofs.YtephhejfkihhgaaDoor
open Go.RowKit Go.Shelf
attribute [local go_sem] Oper.semAt_some spV

theorem info_sp : (Tryd.prog.info? 43).map (fun i => (i.zero, i.size, i.bytes)) = some (some (.agg #[.int .i64 0, .int .i64 0, .bool false]), 3, 24) := by kernel_rfl
/-- Pieces as cells. -/
def spC (p : Sp) : List Value := [.int .i64 p.1, .int .i64 p.2.1, .bool p.2.2]
def spCs (l : List Sp) : List Value := l.flatMap spC
theorem spCs_len (l : List Sp) : (spCs l).length = l.length * 3 := by
  induction l with
  | nil => rfl
  | cons p l ih => simp [spCs, spC] at ih ⊢; omega
theorem spCs_snoc (l : List Sp) (p : Sp) : spCs (l ++ [p]) = spCs l ++ spC p := by simp [spCs]

theorem sp_one (x : Sp) : ∀ u ∈ spC x, u.oneCell' = true := by
  intro u hu; simp [spC] at hu; rcases hu with rfl | rfl | rfl <;> rfl
theorem sp_cells (W : World) (x : Sp) : ∀ j u, (spC x)[j]? = some u → (W.alloc (.cells #[.int .i64 x.1, .int .i64 x.2.1, .bool x.2.2] 43)).cell? ((⟨W.heap.size, 0, none⟩ : Addr).add j) = some u := by
  intro j u hj
  rw [addr_add, cell_of_row _ _ _ _ _ _ (heap_alloc_new W _)]
  simpa [spC] using hj
/-- What Spans answers: the pieces and 0, or nothing and the error. -/
def SpansPost (s : ByteArray) (w : World) (e : Ending) (w' : World) : Prop :=
  ∃ v, e = .returned (.tuple #[v, .int .i64 (docErr s.data.toList)]) ∧
    w'.ownsRow w.heap.size 43 3 v (docSpans s.data.toList).length (spCs (docSpans s.data.toList)) ∧ Below w.heap.size w w'

set_option maxRecDepth 100000 in
set_option maxHeartbeats 2000000 in
theorem spans_no (s : ByteArray) (w : World) (h : Okw w) (hd : docErr s.data.toList ≠ 0) : Calls Tryd.prog 11 #[.string s] w (SpansPost s w) := by
  unfold SpansPost docSpans
  rw [if_neg hd]
  have c := document_any s w h
  obtain ⟨er, her⟩ : ∃ er, docErr s.data.toList = er := ⟨_, rfl⟩
  rw [her] at c hd ⊢
  have C := Lib.hid c
  clear c her
  have h1 : (er == 0) = false := by simpa using hd
  go_enter Tryd.func11, Tryd.ntmps11
  go_wp2_with fail
  refine C.out.mono ?_
  rintro e w1 ⟨rfl, hb⟩
  go_wp2
  go_ret2
  exact ⟨_, rfl, World.ownsRow_nil _ _ _ _, hb⟩

set_option maxRecDepth 100000 in
set_option maxHeartbeats 2000000 in
theorem spans_yes (s : ByteArray) (w : World) (h : Okw w) (hd : docErr s.data.toList = 0) (hs : s.size ≤ 1048576) (hv : Lib.validD s.data.toList = true) : Calls Tryd.prog 11 #[.string s] w (SpansPost s w) := by
  unfold SpansPost docSpans
  rw [if_pos hd, hd]
  obtain ⟨i0, hi, hz0, hz1, hz2⟩ := info_parts info_sp
  have c := document_any s w h
  rw [hd] at c
  have C := Lib.hid c
  clear c hd
  refine (callsIn_wide (n := 6)).1 ?_
  refine callsIn_of_wp_marks Tryd.func11 rfl trivial ?_ rfl
  simp only [Tryd.ntmps11, List.size_toArray, List.length_cons, List.length_nil, Nat.reduceAdd, Nat.reduceSub, Array.replicate_succ, Array.replicate_zero, List.push_toArray, List.append_toArray, List.nil_append, List.cons_append]
  gi_wp2_with fail
  refine ⟨trivial, ?_⟩
  gi_at_call 25
  refine (callsIn_wide.2 C.out).mono ?_
  rintro e w0 ⟨rfl, hbd⟩
  gi_wp2_with (refine ⟨trivial, ?_⟩; gi_at_call 26; refine (callsIn_wide.2 (pieces_any _ _)).mono ?_; rintro e w' ⟨rfl, rfl⟩)
  have hw0 := hbd.size
  have bL := Boxed.new w0 23 (.slice none 0 0)
  have bS := Boxed.new (w0.alloc (.cells #[.slice none 0 0] 23)) 9 (.string s)
  rw [World.size_alloc] at bS
  have hB0 : Below w.heap.size w ((w0.alloc (.cells #[.slice none 0 0] 23)).alloc (.cells #[.string s] 9)) := (hbd.alloc hw0 _).alloc (by simp; omega) _
  refine wpIn_rangeFunc_ownH rfl (by decide) (gf := 41) (lb := #[.pointer (some ⟨w0.heap.size + 1, 0, none⟩)]) rfl trivial (enters_of Tryd.func41 (by kernel_rfl) rfl)
    (piter_stops 5 (by decide) (w0.heap.size + 1) w.heap.size s hs hv _ (by simp; omega) (by simp) bS.cell) Keep.trans (keepK_b (by simp; omega) (by simp)) (Below.refl _ _) (fun _ => rfl)
    (fun (pre : List Sp) W => ((∃ v, Boxed W w0.heap.size 23 v ∧ W.ownsRow w.heap.size 43 3 v pre.length (spCs pre) ∧ True) ∧ Boxed W (w0.heap.size + 1) 9 (.string s)) ∧ Below w.heap.size w W)
    (fun _ _ _ => False)
    (OwnFrom.and (OwnFrom.and (Own.from (holdsRow_own w.heap.size w0.heap.size 23 43 3 (fun pre : List Sp => pre.length) (fun pre : List Sp => spCs pre) (fun (pre : List Sp) _ => True)) _) (Own.from (boxed_own _ _ _) _)) (ownFrom_below (Nat.le_refl _) (by simp; omega)))
    (fun c => ownFrom_pure _ (fun _ => False))
    ⟨⟨⟨_, bL.alloc _, World.ownsRow_nil _ _ _ _, trivial⟩, bS⟩, hB0⟩
    (fun x a' W => ∃ k, a' = { tmps := #[.string s, undef, .slice none 0 0, .int .i64 0, .int .i64 0, .pointer (some ⟨w0.heap.size, 0, none⟩), .pointer (some ⟨k, 0, none⟩), .string s, .int .i64 0, .int .i64 0, .bool false, undef, .string s, .func (.func 41) #[] #[.pointer (some ⟨w0.heap.size + 1, 0, none⟩)], spV x, undef, undef, undef, undef, undef], defers := [] } ∧ W.heap[k]? = some (.cells (spC x).toArray 43 (0, 0)))
    (fun x a' s X Y row hx hg hr => by
      obtain ⟨k, e, hk⟩ := hx
      exact ⟨k, e, (hg.block k (Array.getElem?_eq_some_iff.1 hk).1 (fun e' => by obtain ⟨_, o, ho, hc⟩ := hr k e'.symm; rw [hk] at ho; cases ho; cases hc)).trans hk⟩)
    ?assign ?body ?done ?stop
  case assign =>
    rintro l pre x W K ⟨⟨⟨v, hv1, hrow, _⟩, hS⟩, hB⟩ hK
    gi_wp2
    exact hK _ _ ((KeepsOthers.alloc W _).from _) (Keep.of_below ((Below.refl _ W).alloc (Nat.le_refl _) _) hB.size hS.lt) ⟨⟨⟨v, hv1.alloc _, hrow.alloc _, trivial⟩, hS.alloc _⟩, hB.alloc hB.size _⟩ ⟨W.heap.size, rfl, heap_alloc_new W _⟩
  case body =>
    rintro l pre x a' W hl _ ⟨⟨⟨v, hv1, hrow, _⟩, hS⟩, hB⟩ ⟨k, rfl, hk⟩ hlt
    have hc := hv1.cell
    have hf := hv1.frozen
    have p0 : W.cell? ⟨k, 0, none⟩ = some (.int .i64 x.1) := by simp [World.cell?, hk, spC]
    have p1 : W.cell? ⟨k, 1, none⟩ = some (.int .i64 x.2.1) := by simp [World.cell?, hk, spC]
    have p2 : W.cell? ⟨k, 2, none⟩ = some (.bool x.2.2) := by simp [World.cell?, hk, spC]
    gi_wp2_with (gi_at_builtin; refine wpListIn_append_own _ rfl _ _ 23 rfl w.heap.size 43 i0 _ 3 24 Tryd.underlying23 hi hz0 hz1 hz2 rfl (by decide) _ _ _ rfl (hrow.alloc _) ⟨W.heap.size, 0, none⟩ 1 1 (spC x) rfl rfl (sp_cells W x) (sp_one x) (by unfold maxLen; omega) (by omega) (by have := hB.size; simp; omega) ?_; intro v' w1 hown' hgrow _; obtain ⟨g', cap', rfl⟩ := ownsRow_succ hown'; have hS1 := ((hS.alloc _).kept hgrow (hS.not_row (by decide) hrow)).other (by omega : w0.heap.size + 1 ≠ w0.heap.size) (.slice (some ⟨g', 0, none⟩) (pre.length + 1) cap'); obtain ⟨hv1', hv2, hr2, hk2, hb2⟩ := hv1.appended (by decide) hrow hB.size (by omega) hown' hgrow; have hc1 := hv1'.cell; have hf1 := hv1'.frozen)
    exact ⟨hk2.from _, ⟨hb2, Eq.trans hS1 (Eq.symm hS)⟩, ⟨⟨_, hv2, by rw [spCs_snoc]; simpa using hr2, trivial⟩, hS1⟩, hB.trans hb2⟩
  case done =>
    rintro D ys W hD rfl ⟨⟨⟨v, hv1, hrow, _⟩, hS⟩, hB⟩ hK
    have hc := hv1.cell
    gi_wp2
    refine ⟨by simp, .inl ⟨_, _, rfl, run_takeDeferred hK, ?_⟩⟩
    refine ⟨_, results_tmp2 rfl _ _ _, ?_⟩
    exact ⟨v, rfl, ownsRow_putObj (W := W) hrow _ hK rfl, hB.trans (belowK_b (w := w) (Nat.le_refl _) W D _ _ (by simp at hD; omega) hK rfl rfl)⟩
  case stop => exact fun D c pre W hD hp hF _ => hF.elim
theorem doc_ok (s : ByteArray) (h : docErr s.data.toList = 0) : s.size ≤ 1048576 ∧ Lib.validD s.data.toList = true := by
  unfold docErr at h
  rw [← Lib.size_eq] at h
  by_cases h1 : 1048576 < s.size
  · rw [if_pos h1] at h; cases h
  · rw [if_neg h1] at h
    cases hv : Lib.validD s.data.toList
    · rw [hv] at h; simp at h
    · exact ⟨by omega, rfl⟩
theorem spans_own (s : ByteArray) (w : World) (h : Okw w) : Calls Tryd.prog 11 #[.string s] w (SpansPost s w) := by
  by_cases hd : docErr s.data.toList = 0
  · exact spans_yes s w h hd (doc_ok s hd).1 (doc_ok s hd).2
  · exact spans_no s w h hd

/-- The slice value v reads as the pieces l. -/
def SRuns (w : World) (v : Value) (l : List Sp) : Prop :=
  ∃ A c, v = .slice A l.length c ∧ l.length ≤ c ∧ (c ≤ maxLen ∧ (A = none → c = 0)) ∧
    (0 < l.length → ∃ b o, A = some ⟨b, o, none⟩ ∧ b < w.heap.size ∧ ∀ j, j < l.length →
      w.cell? ⟨b, o + j * 3, none⟩ = some (.int .i64 (l.getD j (0, 0, false)).1) ∧ w.cell? ⟨b, o + j * 3 + 1, none⟩ = some (.int .i64 (l.getD j (0, 0, false)).2.1) ∧ w.cell? ⟨b, o + j * 3 + 2, none⟩ = some (.bool (l.getD j (0, 0, false)).2.2))
theorem SRuns.below {w w' : World} {v : Value} {l : List Sp} (h : SRuns w v l) (hb : Below w.heap.size w w') : SRuns w' v l := by
  obtain ⟨A, c, e, hc, hm, hx⟩ := h
  refine ⟨A, c, e, hc, hm, fun h0 => ?_⟩
  obtain ⟨b, o, eA, hlt, hcell⟩ := hx h0
  exact ⟨b, o, eA, Nat.lt_of_lt_of_le hlt hb.size, fun j hj => ⟨(hb.cell (p := ⟨b, _, none⟩) hlt).trans (hcell j hj).1, (hb.cell (p := ⟨b, _, none⟩) hlt).trans (hcell j hj).2.1, (hb.cell (p := ⟨b, _, none⟩) hlt).trans (hcell j hj).2.2⟩⟩
theorem SRuns.nil_ (w : World) : SRuns w (.slice none 0 0) [] := ⟨none, 0, rfl, by simp, by simp [maxLen], fun h => absurd h (by simp)⟩
theorem spCs_at (l : List Sp) (j i : Nat) (hj : j < l.length) (hi : i < 3) : (spCs l)[j * 3 + i]? = (spC (l.getD j (0, 0, false)))[i]? := by
  induction l generalizing j with
  | nil => simp at hj
  | cons p l ih =>
    cases j with
    | zero =>
      show (spC p ++ spCs l)[0 * 3 + i]? = _
      rw [List.getElem?_append_left (by simp [spC]; omega)]; simp
    | succ j =>
      show (spC p ++ spCs l)[(j + 1) * 3 + i]? = _
      rw [List.getElem?_append_right (by simp [spC]; omega)]
      have := ih j (by simpa using hj)
      rw [show (j + 1) * 3 + i - (spC p).length = j * 3 + i by simp [spC]; omega, this]
      simp
theorem SRuns.of_own {w : World} {base : Nat} {v : Value} {n : Nat} {l : List Sp} {e : TypeId} (h : w.ownsRow base e 3 v n (spCs l)) : SRuns w v l := by
  obtain ⟨hlen, hv⟩ := h
  have hn : l.length = n := by rw [spCs_len] at hlen; omega
  subst hn
  rcases hv with ⟨rfl, h0⟩ | ⟨g, cap, cur, rfl, _, hg, hle, hcap, hsz, htk⟩
  · exact ⟨none, 0, by rw [h0], by omega, by simp [maxLen], fun hp => absurd hp (by omega)⟩
  · refine ⟨_, cap, rfl, hle, ⟨hcap, fun h => by cases h⟩, fun _ => ⟨g, 0, rfl, (Array.getElem?_eq_some_iff.1 hg).1, fun j hj => ?_⟩⟩
    have key : ∀ i, i < 3 → w.cell? ⟨g, 0 + j * 3 + i, none⟩ = (spC (l.getD j (0, 0, false)))[i]? := by
      intro i hi
      rw [cell_of_row w g (0 + j * 3 + i) cur e (0, 0) hg]
      have h2 := spCs_at l j i hj hi
      rw [← htk, List.getElem?_take, if_pos (by omega)] at h2
      simpa using h2
    exact ⟨key 0 (by decide), key 1 (by decide), key 2 (by decide)⟩

theorem spans_any (s : ByteArray) (w : World) (h : Okw w) :
    Calls Tryd.prog 11 #[.string s] w fun e w' => ∃ A c, e = .returned (.tuple #[.slice A (docSpans s.data.toList).length c, .int .i64 (docErr s.data.toList)]) ∧ SRuns w' (.slice A (docSpans s.data.toList).length c) (docSpans s.data.toList) ∧ Below w.heap.size w w' := by
  refine (spans_own s w h).mono ?_
  rintro e w' ⟨v, rfl, hrow, hb⟩
  have hr : SRuns w' v (docSpans s.data.toList) := SRuns.of_own hrow
  have hr' := hr
  obtain ⟨A, c, rfl, _⟩ := hr'
  exact ⟨A, c, rfl, hr, hb⟩
end Go.Proofs.YtephhejfkihhgaaDoor
