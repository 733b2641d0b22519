/- text.Tokens: the texts of a document's tokens, or why it is none. -/
import Derived.Test.YtephhejfkihhgaaDoorTToks
namespace Go.Proofs.YtephhejfkihhgaaDoor
open Go.RowKit Go.Shelf
attribute [local go_sem] Oper.semAt_some

theorem info_str : (Tryd.prog.info? 9).map (fun i => (i.zero, i.size, i.bytes)) = some (some (.string ⟨#[]⟩), 1, 16) := by kernel_rfl
/-- The tokens of a document, as strings. -/
def docTokS (s : ByteArray) : List ByteArray := if docErr s.data.toList = 0 then tokS s (spansL s.data.toList) else []
def TokensPost (s : ByteArray) (w : World) (e : Ending) (w' : World) : Prop :=
  ∃ v, e = .returned (.tuple #[v, .int .i64 (docErr s.data.toList)]) ∧
    w'.ownsRow w.heap.size 9 1 v (docTokS s).length ((docTokS s).map Value.string) ∧ Below w.heap.size w w'

/-- An append whose run is known, within a fence. -/
theorem wpListIn_append_run {F : Fence} {n : Nat} {P : Program} {w : World} {ops : Array Oper} {rest : List Oper} {o : Oper} {a : Act} {Q : Exit → Act → World → Prop} (s x : Operand) (t : TypeId) (v u v' : Value) (w' : World)
    (hg : o.guard = none) (hop : o.op = Op.call { callee := Callee.builtin Builtin.append, args := #[s, x], argTypes := #[t, t] })
    (hrun : (Builtin.append_ #[t, t] o.type #[v, u]).run P w = .ok v' w') (hs : a.eval s = v) (hx : a.eval x = u)
    (h : wpListIn F n P ops Q rest (a.put o.dst v') w') : wpListIn F n P ops Q (o :: rest) a w := by
  refine wpListIn_plain hg fun K hK => ?_
  unfold Oper.wpIn
  refine ⟨?_, ?_⟩
  · simp [Oper.about, hop, resolve, Target.leads, Sem.run_pure]
  · rw [Oper.semAt_plain F _ _ (by rw [hop]; intro c hc'; cases hc')]
    simp [execOp, hop, resolve, invoke, builtin, hs, hx, hrun, Result.andThen]
    exact hK _ _ h
theorem str_cells (W : World) (x : ByteArray) : ∀ j u, [Value.string x][j]? = some u → (W.alloc (.cells #[.string x] 9)).cell? ((⟨W.heap.size, 0, none⟩ : Addr).add j) = some u := by
  intro j u hj
  rw [addr_add, cell_of_row _ _ _ _ _ _ (heap_alloc_new W _)]
  simpa using hj

set_option maxRecDepth 100000 in
set_option maxHeartbeats 2000000 in
theorem tokens_no (s : ByteArray) (w : World) (h : Okw w) (hd : docErr s.data.toList ≠ 0) : Calls Tryd.prog 13 #[.string s] w (TokensPost s w) := by
  unfold TokensPost docTokS
  rw [if_neg hd]
  have c := document_any s w h
  obtain ⟨er, her⟩ : ∃ er, docErr s.data.toList = er := ⟨_, rfl⟩
  rw [her] at c hd ⊢
  have C := Lib.hid c
  clear c her
  have h1 : (er == 0) = false := by simpa using hd
  go_enter Tryd.func13, Tryd.ntmps13
  go_wp2_with fail
  refine C.out.mono ?_
  rintro e w1 ⟨rfl, hb⟩
  go_wp2
  go_ret2
  exact ⟨_, rfl, World.ownsRow_nil _ _ _ _, hb⟩

set_option maxRecDepth 100000 in
set_option maxHeartbeats 2000000 in
theorem tokens_yes (s : ByteArray) (w : World) (h : Okw w) (hd : docErr s.data.toList = 0) (hs : s.size ≤ 1048576) (hv : Lib.validD s.data.toList = true) : Calls Tryd.prog 13 #[.string s] w (TokensPost s w) := by
  unfold TokensPost docTokS
  rw [if_pos hd, hd]
  obtain ⟨i0, hi, hz0, hz1, hz2⟩ := info_parts info_str
  have c := document_any s w h
  rw [hd] at c
  have C := Lib.hid c
  clear c hd
  refine (callsIn_wide (n := 6)).1 ?_
  refine callsIn_of_wp_marks Tryd.func13 rfl trivial ?_ rfl
  simp only [Tryd.ntmps13, List.size_toArray, List.length_cons, List.length_nil, Nat.reduceAdd, Nat.reduceSub, Array.replicate_succ, Array.replicate_zero, List.push_toArray, List.append_toArray, List.nil_append, List.cons_append]
  gi_wp2_with fail
  refine ⟨trivial, ?_⟩
  gi_at_call 25
  refine (callsIn_wide.2 C.out).mono ?_
  rintro e w0 ⟨rfl, hbd⟩
  gi_wp2_with (refine ⟨trivial, ?_⟩; gi_at_call 30; refine (callsIn_wide.2 (tokens_fn _ _)).mono ?_; rintro e w' ⟨rfl, rfl⟩)
  have hw0 := hbd.size
  have bL := Boxed.new w0 27 (.slice none 0 0)
  have bS := Boxed.new (w0.alloc (.cells #[.slice none 0 0] 27)) 9 (.string s)
  rw [World.size_alloc] at bS
  have hB0 : Below w.heap.size w ((w0.alloc (.cells #[.slice none 0 0] 27)).alloc (.cells #[.string s] 9)) := (hbd.alloc hw0 _).alloc (by simp; omega) _
  have hbn : ∀ (v : Value) (k : Nat) (xs : List Value) (W : World), W.ownsRow w.heap.size 9 1 v k xs → (∀ g, v.ownBlock = some g → g < W.heap.size) := by
    intro v k xs W hr g hg
    rcases hr.2 with ⟨rfl, _⟩ | ⟨g', cap, cur, rfl, _, hgb, _⟩
    · simp [Value.ownBlock] at hg
    · obtain rfl : g' = g := by simpa [Value.ownBlock] using hg
      exact (Array.getElem?_eq_some_iff.1 hgb).1
  refine wp_range_priv (by decide) (gf := 46) (lb := #[.pointer (some ⟨w0.heap.size + 1, 0, none⟩)]) rfl (enters_of Tryd.func46 (by kernel_rfl) rfl)
    (titer (w0.heap.size + 1) w.heap.size s hs hv _ (by simp; omega) (by simp) bS.cell) Keep.trans (keepK_b (by simp; omega) (by simp)) (Below.refl _ _) (fun _ => rfl)
    (fun (pre : List ByteArray) W => (∃ v, Boxed W w0.heap.size 27 v ∧ W.ownsRow w.heap.size 9 1 v pre.length (pre.map Value.string) ∧ ∀ g, v.ownBlock = some g → g ≠ w0.heap.size + 1 ∧ (g < w0.heap.size + 4 ∨ w0.heap.size + 6 ≤ g)) ∧ Boxed W (w0.heap.size + 1) 9 (.string s) ∧ Below w.heap.size w W)
    ?own ?priv ⟨⟨_, bL.alloc _, World.ownsRow_nil _ _ _ _, by simp [Value.ownBlock]⟩, bS, hB0⟩
    (fun x => { tmps := #[.string s, undef, .slice none 0 0, .int .i64 0, .int .i64 0, .pointer (some ⟨w0.heap.size, 0, none⟩), .string x, .string s, .int .i64 0, .int .i64 0, .bool false, undef, .string s, .func (.func 46) #[] #[.pointer (some ⟨w0.heap.size + 1, 0, none⟩)], .string x, undef, undef, undef, undef, undef], defers := [] })
    ?assign ?body ?done
  case own =>
    intro pre X Y row hx hg hr
    obtain ⟨⟨v, hv1, hrow, hgv⟩, hS, hB⟩ := hx
    have hne : ∀ k, (∃ cs t, X.heap[k]? = some (.cells cs t (0, 0))) → some k ≠ row := by
      rintro k ⟨cs, t, hk⟩ e
      obtain ⟨_, o, ho, hc⟩ := hr k e.symm
      rw [hk] at ho; cases ho; cases hc
    refine ⟨⟨v, hv1.kept hg (hne _ ⟨_, _, hv1⟩), hrow.kept hg ?_, hgv⟩, hS.kept hg (hne _ ⟨_, _, hS⟩), ⟨hg.os.trans hB.os, hg.tape.trans hB.tape, hg.output.trans hB.output, Nat.le_trans hB.size hg.size, fun k hk => (hg.block k (Nat.lt_of_lt_of_le hk hB.size) (fun e => by have := (hr k e.symm).1; simp at this; omega)).trans (hB.block k hk)⟩⟩
    rcases hrow.2 with ⟨rfl, _⟩ | ⟨g', cap, cur, rfl, _, hgb, _⟩
    · exact .inl rfl
    · exact .inr (fun e => hne g' ⟨_, _, hgb⟩ (by simpa [Value.ownBlock] using e))
  case priv =>
    rintro pre X Y ⟨⟨v, hv1, hrow, hgv⟩, hS, hB⟩ hsz hp
    simp only [World.size_alloc] at hsz hp
    refine ⟨⟨v, (hp.1.block _ (by omega)).trans hv1, ⟨hrow.1, ?_⟩, hgv⟩, (hp.1.block _ (by omega)).trans hS, hB.trans (hp.1.mono (by omega))⟩
    rcases hrow.2 with h0 | ⟨g', cap, cur, rfl, h1, hgb, h2⟩
    · exact .inl h0
    · refine .inr ⟨g', cap, cur, rfl, h1, ?_, h2⟩
      rcases (hgv g' rfl).2 with h3 | h3
      · exact (hp.1.block _ (by omega)).trans hgb
      · exact hp.2 g' _ (by omega) hgb rfl
  case assign =>
    intro l x W K hK
    gi_wp2
    exact hK
  case body =>
    rintro l pre x W hsz ⟨⟨v, hv1, hrow, hgv⟩, hS, hB⟩ hlt
    have hc := hv1.cell
    have hf := hv1.frozen
    simp only [World.size_alloc] at hsz
    obtain ⟨v', w1, hrun, hown', hgrow, _, hat⟩ := run_append_own_at (P := Tryd.prog) (W.alloc (.cells #[.string x] 9)) w.heap.size 27 27 9 i0 _ 1 16 Tryd.underlying27 hi hz0 hz1 hz2 rfl (by decide) v pre.length (pre.map Value.string) (hrow.alloc _) ⟨W.heap.size, 0, none⟩ 1 1 [.string x] rfl (str_cells W x) (by simp [Value.oneCell']) (by unfold maxLen; omega) (by omega) (by have := hB.size; simp; omega)
    obtain ⟨g', cap', rfl⟩ := ownsRow_succ hown'
    have hS1 := ((hS.alloc (.cells #[.string x] 9)).kept hgrow (fun e => (hgv _ e.symm).1 rfl)).other (by omega : w0.heap.size + 1 ≠ w0.heap.size) (.slice (some ⟨g', 0, none⟩) (pre.length + 1) cap')
    obtain ⟨hv1', hv2, hr2, hk2, hb2⟩ := hv1.appended (by decide) hrow hB.size (by omega) hown' hgrow
    have hc1 := hv1'.cell
    have hf1 := hv1'.frozen
    have HR := Lib.hid hrun
    clear hrun
    gi_wp2_with (gi_at_builtin; refine wpListIn_append_run _ _ _ _ _ _ _ rfl rfl HR.out rfl rfl ?_)
    refine ⟨hk2.from _, ?_, ⟨hb2, Eq.trans hS1 (Eq.symm hS)⟩, ⟨_, hv2, by simpa using hr2, ?_⟩, hS1, hB.trans hb2⟩
    · intro k h1 h2
      simp only [World.size_alloc] at h1 h2
      exact (Below.heap_setCell _ _ _ k (by show k ≠ w0.heap.size; omega)).trans ((hgrow.block k (by simp; omega) (fun e => by have := (hgv k e.symm).2; omega)).trans (Below.heap_alloc _ _ _ (by omega)))
    · intro g hg
      obtain rfl : g' = g := by simpa [Value.ownBlock] using hg
      rcases hat with h3 | h3
      · exact hgv g' (by rw [← h3]; rfl)
      · have : g' = W.heap.size + 1 := by simpa [Value.ownBlock] using h3
        omega
  case done =>
    rintro D ys W hD rfl ⟨⟨v, hv1, hrow, _⟩, hS, hB⟩ hK
    have hc := hv1.cell
    gi_wp2
    refine ⟨by simp, .inl ⟨_, _, rfl, run_takeDeferred hK, ?_⟩⟩
    refine ⟨_, results_tmp2 rfl _ _ _, ?_⟩
    exact ⟨v, rfl, ownsRow_putObj (W := W) hrow _ hK rfl, hB.trans (belowK_b (w := w) (Nat.le_refl _) W D _ _ (by simp at hD; omega) hK rfl rfl)⟩
theorem tokens_own (s : ByteArray) (w : World) (h : Okw w) : Calls Tryd.prog 13 #[.string s] w (TokensPost s w) := by
  by_cases hd : docErr s.data.toList = 0
  · exact tokens_yes s w h hd (doc_ok s hd).1 (doc_ok s hd).2
  · exact tokens_no s w h hd

/-- The slice value v reads as the texts l. -/
def TRuns (w : World) (v : Value) (l : List ByteArray) : Prop :=
  ∃ A c, v = .slice A l.length c ∧ l.length ≤ c ∧ (c ≤ maxLen ∧ (A = none → c = 0)) ∧
    (0 < l.length → ∃ b o, A = some ⟨b, o, none⟩ ∧ b < w.heap.size ∧ ∀ j, j < l.length → w.cell? ⟨b, o + j, none⟩ = some (.string (l.getD j ⟨#[]⟩)))
theorem TRuns.below {w w' : World} {v : Value} {l : List ByteArray} (h : TRuns w v l) (hb : Below w.heap.size w w') : TRuns w' v l := by
  obtain ⟨A, c, e, hc, hm, hx⟩ := h
  refine ⟨A, c, e, hc, hm, fun h0 => ?_⟩
  obtain ⟨b, o, eA, hlt, hcell⟩ := hx h0
  exact ⟨b, o, eA, Nat.lt_of_lt_of_le hlt hb.size, fun j hj => (hb.cell (p := ⟨b, o + j, none⟩) hlt).trans (hcell j hj)⟩
theorem TRuns.nil_ (w : World) : TRuns w (.slice none 0 0) [] := ⟨none, 0, rfl, by simp, by simp [maxLen], fun h => absurd h (by simp)⟩
theorem TRuns.of_own {w : World} {base : Nat} {e : TypeId} {v : Value} {n : Nat} {l : List ByteArray} (h : w.ownsRow base e 1 v n (l.map Value.string)) : TRuns w v l := by
  obtain ⟨hlen, hv⟩ := h
  have hn : l.length = n := by simpa using hlen
  subst hn
  rcases hv with ⟨rfl, h0⟩ | ⟨g, cap, cur, rfl, _, hg, hle, hcap, hsz, htk⟩
  · exact ⟨none, 0, by rw [h0], by omega, by simp [maxLen], fun hp => absurd hp (by omega)⟩
  · refine ⟨_, cap, rfl, hle, ⟨hcap, fun h => by cases h⟩, fun _ => ⟨g, 0, rfl, (Array.getElem?_eq_some_iff.1 hg).1, fun j hj => ?_⟩⟩
    rw [cell_of_row w g (0 + j) cur e (0, 0) hg]
    have h2 : (cur.toList.take (l.length * 1))[j]? = some (Value.string (l.getD j ⟨#[]⟩)) := by
      rw [htk]; simp [List.getD_eq_getElem?_getD, hj]
    rw [List.getElem?_take] at h2
    rw [if_pos (by omega)] at h2
    simpa using h2
theorem tokens_any (s : ByteArray) (w : World) (h : Okw w) :
    Calls Tryd.prog 13 #[.string s] w fun e w' => ∃ A c, e = .returned (.tuple #[.slice A (docTokS s).length c, .int .i64 (docErr s.data.toList)]) ∧ TRuns w' (.slice A (docTokS s).length c) (docTokS s) ∧ Below w.heap.size w w' := by
  refine (tokens_own s w h).mono ?_
  rintro e w' ⟨v, rfl, hrow, hb⟩
  have hr : TRuns w' v (docTokS s) := TRuns.of_own hrow
  have hr' := hr
  obtain ⟨A, c, rfl, _⟩ := hr'
  exact ⟨A, c, rfl, hr, hb⟩
end Go.Proofs.YtephhejfkihhgaaDoor
