/- align.Steps: the alignment of two tokens, or why one of them is none. -/
import Derived.Test.YthigbnklekdemaaDoorGIter
import Derived.Test.YthigbnklekdemaaDoorGRev
namespace Go.Proofs.YthigbnklekdemaaDoor
open Go.RowKit Go.Shelf
attribute [local go_sem] Oper.semAt_some stV

/-- t.back(): t is boxed, and the function value captures the box. -/
theorem back_any (A : Option Addr) (n c : Nat) (B : Option Addr) (m c' : Nat) (G : Option Addr) (k c'' : Nat) (w : World) :
    Calls Tryd.prog 24 #[.agg #[.slice A n c, .slice B m c', .slice G k c'']] w fun e w' => e = .returned (.func (.func 34) #[] #[.pointer (some ⟨w.heap.size, 0, none⟩)]) ∧ w' = w.alloc (.cells #[.slice A n c, .slice B m c', .slice G k c''] 45) := by
  go_enter Tryd.func24, Tryd.ntmps24
  go_wp2
  go_ret
  exact ⟨rfl, rfl⟩

theorem biter_stops (n : Nat) (hn : 1 ≤ n) (Bs n₀ : Nat) (u v d : Value) (x y : List Int) (lx : x.length ≤ 64) (ly : y.length ≤ 64) (w0 : World) (hw0 : w0.heap.size = n₀) (hx : Runs w0 u x) (hy : Runs w0 v y) (hT : TabR w0 d x y)
    (w : World) (hn0 : n₀ ≤ w.heap.size) (hW0 : Below n₀ w0 w) (hBs : Bs < w.heap.size) (hc : TBox w Bs u v d) :
    SeqStopsK Fence.wide n Tryd.prog 34 #[.pointer (some ⟨Bs, 0, none⟩)] (fun x : St => #[stV x]) (Keep n₀ Bs) (fun ys => ys = pathR x.reverse y.reverse) (fun pre => pre <+: pathR x.reverse y.reverse) 128 w :=
  fun l J Jx W hW hJ _ hY h0 => biter_in n hn l Bs n₀ u v d x y lx ly w0 hw0 hx hy hT J Jx W hJ hY (Nat.le_trans hn0 hW.size) (hW0.trans (hW.mono hn0)) (Nat.lt_of_lt_of_le hBs hW.size) ((hW.block Bs hBs).trans hc) h0

theorem st_cells (W : World) (x : St) : ∀ j u, (stCell x)[j]? = some u → (W.alloc (.cells #[.int .i64 x.1, .int .i32 x.2.1, .int .i32 x.2.2] 42)).cell? ((⟨W.heap.size, 0, none⟩ : Addr).add j) = some u := by
  intro j u hj
  rw [addr_add, cell_of_row _ _ _ _ _ _ (heap_alloc_new W _)]
  simpa [stCell] using hj
/-- Steps are kept where no block that holds cells is turned. -/
theorem StRuns.kept {w w' : World} {v : Value} {l : List St} (h : StRuns w v l) (hz : w.heap.size ≤ w'.heap.size) (hk : ∀ b k z, w.cell? ⟨b, k, none⟩ = some z → w'.heap[b]? = w.heap[b]?) : StRuns w' v l := by
  obtain ⟨A, c, e, hc, hm, hx⟩ := h
  refine ⟨A, c, e, hc, hm, fun h0 => ?_⟩
  obtain ⟨b, o, eA, hlt, hcell⟩ := hx h0
  have hb := hk b _ _ (hcell 0 h0).1
  exact ⟨b, o, eA, Nat.lt_of_lt_of_le hlt hz, fun j hj => ⟨(World.cell?_of_block hb).trans (hcell j hj).1, (World.cell?_of_block hb).trans (hcell j hj).2.1, (World.cell?_of_block hb).trans (hcell j hj).2.2⟩⟩

theorem own_not {w : World} {base : Nat} {e : TypeId} {size n g : Nat} {v : Value} {xs : List Value} {o : Option (List Deferred)} (h : w.ownsRow base e size v n xs) (hg : w.heap[g]? = some (.deferred o)) : v.ownBlock ≠ some g := by
  rcases h.2 with ⟨rfl, _⟩ | ⟨g', cap', cur, rfl, hb, hg', h1, h2, h3, h4⟩
  · simp [Value.ownBlock]
  · intro e1
    obtain rfl : g' = g := by simpa [Value.ownBlock] using e1
    rw [hg] at hg'
    cases hg'
theorem pathR_length (xs ys : List Int) : (pathR xs ys).length ≤ xs.length + ys.length := by
  match xs, ys with
  | [], [] => rw [pathR]; simp
  | [], y :: ys => have := pathR_length [] ys; rw [pathR]; simp at this ⊢; omega
  | x :: xs, [] => have := pathR_length xs []; rw [pathR]; simp at this ⊢; omega
  | x :: xs, y :: ys =>
    have h1 := pathR_length xs ys
    have h2 := pathR_length xs (y :: ys)
    have h3 := pathR_length (x :: xs) ys
    rw [pathR]
    simp only [List.length_cons] at h2 h3 ⊢
    split
    · simp; omega
    · split
      · simp; omega
      · split
        · simp; omega
        · simp; omega
termination_by xs.length + ys.length

theorem tbox_own {β : Type} (B : Nat) (u v d : Value) : Own (fun (_ : β) W => TBox W B u v d) := fun s X Y row hs hg hrow =>
  hs.kept hg (fun e' => by obtain ⟨o, ho, hc⟩ := hrow B e'.symm; rw [show X.heap[B]? = _ from hs] at ho; cases ho; cases hc)

set_option maxRecDepth 100000 in
set_option maxHeartbeats 4000000 in
theorem steps_ok (s t : ByteArray) (w : World) (h : Okw w) (hs : s.size * 4 ≤ 140737488355328) (ht : t.size * 4 ≤ 140737488355328) (h1 : tokErr s.data.toList = 0) (h2 : tokErr t.data.toList = 0) :
    Calls Tryd.prog 10 #[.string s, .string t] w fun e w' => ∃ v, e = .returned (.tuple #[v, .int .i64 0]) ∧ StRuns w' v (pathR (tokRunes s.data.toList).reverse (tokRunes t.data.toList).reverse).reverse ∧ Below w.heap.size w w' := by
  have c := lay_ok s t w h hs ht h1 h2
  obtain ⟨lx, _⟩ := tok_len h1
  obtain ⟨ly, _⟩ := tok_len h2
  clear h1 h2
  obtain ⟨x, hx⟩ : ∃ x, tokRunes s.data.toList = x := ⟨_, rfl⟩
  obtain ⟨y, hy⟩ : ∃ y, tokRunes t.data.toList = y := ⟨_, rfl⟩
  rw [hx] at lx ⊢
  rw [hy] at ly ⊢
  simp only [hx, hy] at c
  clear hx hy
  obtain ⟨i0, hi, hz0, hz1, hz2⟩ := info_parts info_st
  have C := Lib.hid c; clear c
  refine (callsIn_wide (n := 6)).1 ?_
  refine callsIn_of_wp_marks Tryd.func10 rfl trivial ?_ rfl
  simp only [Tryd.ntmps10, List.size_toArray, List.length_cons, List.length_nil, Nat.reduceAdd, Nat.reduceSub, Array.replicate_succ, Array.replicate_zero, List.push_toArray, List.append_toArray, List.nil_append, List.cons_append]
  gi_wp2_with fail
  refine ⟨trivial, ?_⟩
  gi_at_call 23
  refine (callsIn_wide.2 C.out).mono ?_
  rintro e w1 ⟨u, v, d, rfl, R1, R2, T, B1⟩
  obtain ⟨A, ca, rfl, _, _, _⟩ := R1.out
  obtain ⟨B, cb, rfl, _, _, _⟩ := R2.out
  obtain ⟨G, dc, rfl, _⟩ := T.out
  obtain ⟨n, hn⟩ : ∃ n, x.length = n := ⟨_, rfl⟩
  obtain ⟨m, hm⟩ : ∃ m, y.length = m := ⟨_, rfl⟩
  rw [hn] at R1 T
  rw [hm] at R2
  simp only [hn, hm]
  have HN := Lib.hid hn; clear hn
  have HM := Lib.hid hm; clear hm
  gi_wp2_with (refine ⟨trivial, ?_⟩; gi_at_call 24; refine (callsIn_wide.2 (back_any _ _ _ _ _ _ _ _ _ _)).mono ?_; rintro e w' ⟨rfl, rfl⟩)
  obtain ⟨n₀, hn₀⟩ : ∃ n₀, w1.heap.size = n₀ := ⟨_, rfl⟩
  have b3 : Below n₀ w1 (((w1.alloc (.cells #[.slice A n ca, .slice B m cb, .slice (some ⟨G, 0, none⟩) (n + 1) dc] 45)).alloc (.cells #[.slice none 0 0] 23)).alloc (.cells #[.slice A n ca, .slice B m cb, .slice (some ⟨G, 0, none⟩) (n + 1) dc] 45)) := by
    rw [← hn₀]; exact (((Below.refl _ w1).alloc (Nat.le_refl _) _).alloc (by simp) _).alloc (by simp; omega) _
  have bL : Boxed (((w1.alloc (.cells #[.slice A n ca, .slice B m cb, .slice (some ⟨G, 0, none⟩) (n + 1) dc] 45)).alloc (.cells #[.slice none 0 0] 23)).alloc (.cells #[.slice A n ca, .slice B m cb, .slice (some ⟨G, 0, none⟩) (n + 1) dc] 45)) (n₀ + 1) 23 (.slice none 0 0) := by
    have := (Boxed.new (w1.alloc (.cells #[.slice A n ca, .slice B m cb, .slice (some ⟨G, 0, none⟩) (n + 1) dc] 45)) 23 (.slice none 0 0)).alloc (.cells #[.slice A n ca, .slice B m cb, .slice (some ⟨G, 0, none⟩) (n + 1) dc] 45)
    rwa [World.size_alloc, hn₀] at this
  have bT : TBox (((w1.alloc (.cells #[.slice A n ca, .slice B m cb, .slice (some ⟨G, 0, none⟩) (n + 1) dc] 45)).alloc (.cells #[.slice none 0 0] 23)).alloc (.cells #[.slice A n ca, .slice B m cb, .slice (some ⟨G, 0, none⟩) (n + 1) dc] 45)) (n₀ + 1 + 1) (.slice A n ca) (.slice B m cb) (.slice (some ⟨G, 0, none⟩) (n + 1) dc) := by
    have := heap_alloc_new ((w1.alloc (.cells #[.slice A n ca, .slice B m cb, .slice (some ⟨G, 0, none⟩) (n + 1) dc] 45)).alloc (.cells #[.slice none 0 0] 23)) (.cells #[.slice A n ca, .slice B m cb, .slice (some ⟨G, 0, none⟩) (n + 1) dc] 45)
    rw [World.size_alloc, World.size_alloc, hn₀] at this
    exact this
  have hz3 : (((w1.alloc (.cells #[.slice A n ca, .slice B m cb, .slice (some ⟨G, 0, none⟩) (n + 1) dc] 45)).alloc (.cells #[.slice none 0 0] 23)).alloc (.cells #[.slice A n ca, .slice B m cb, .slice (some ⟨G, 0, none⟩) (n + 1) dc] 45)).heap.size = n₀ + 1 + 1 + 1 := by simp [hn₀]
  obtain ⟨w3, hw3⟩ : ∃ w3, w3 = (((w1.alloc (.cells #[.slice A n ca, .slice B m cb, .slice (some ⟨G, 0, none⟩) (n + 1) dc] 45)).alloc (.cells #[.slice none 0 0] 23)).alloc (.cells #[.slice A n ca, .slice B m cb, .slice (some ⟨G, 0, none⟩) (n + 1) dc] 45)) := ⟨_, rfl⟩
  rw [← hw3] at b3 bL bT hz3 ⊢
  rw [hn₀]
  clear hw3
  refine wpIn_rangeFunc_ownH rfl (by decide) (gf := 34) (lb := #[.pointer (some ⟨n₀ + 1 + 1, 0, none⟩)]) rfl trivial (enters_of Tryd.func34 (by kernel_rfl) rfl)
    (biter_stops 5 (by decide) (n₀ + 1 + 1) n₀ _ _ _ x y lx ly w1 hn₀ R1.out R2.out T.out w3 (by omega) b3 (by omega) bT) Keep.trans (keepK_b (by omega) (by omega)) (Below.refl _ _) (fun _ => rfl)
    (fun (pre : List St) W => ((∃ v, Boxed W (n₀ + 1) 23 v ∧ W.ownsRow n₀ 42 3 v pre.length (stCells pre) ∧ True) ∧ TBox W (n₀ + 1 + 1) (.slice A n ca) (.slice B m cb) (.slice (some ⟨G, 0, none⟩) (n + 1) dc)) ∧ Below n₀ w1 W)
    (fun _ _ _ => False)
    (OwnFrom.and (OwnFrom.and (Own.from (holdsRow_own n₀ (n₀ + 1) 23 42 3 (fun pre : List St => pre.length) (fun pre : List St => stCells pre) (fun (pre : List St) _ => True)) _) (Own.from (tbox_own _ _ _ _) _)) (ownFrom_below (Nat.le_of_eq hn₀.symm) (by omega)))
    (fun c => ownFrom_pure _ (fun _ => False))
    ⟨⟨⟨_, bL, World.ownsRow_nil _ _ _ _, trivial⟩, bT⟩, b3⟩
    (fun x a' W => ∃ k, a' = { tmps := #[.string s, .string t, undef, undef, .slice none 0 0, .int .i64 0, .pointer (some ⟨n₀, 0, none⟩), .int .i64 0, .pointer (some ⟨n₀ + 1, 0, none⟩), .pointer (some ⟨k, 0, none⟩), .tuple #[.agg #[.slice A n ca, .slice B m cb, .slice (some ⟨G, 0, none⟩) (n + 1) dc], .int .i64 0], .string s, .string t, .tuple #[.agg #[.slice A n ca, .slice B m cb, .slice (some ⟨G, 0, none⟩) (n + 1) dc], .int .i64 0], .agg #[.slice A n ca, .slice B m cb, .slice (some ⟨G, 0, none⟩) (n + 1) dc], .int .i64 0, .int .i64 0, .bool false, undef, .agg #[.slice A n ca, .slice B m cb, .slice (some ⟨G, 0, none⟩) (n + 1) dc], .func (.func 34) #[] #[.pointer (some ⟨n₀ + 1 + 1, 0, none⟩)], stV x, undef, undef, undef, undef, undef, undef, undef], defers := [] } ∧ W.heap[k]? = some (.cells (stCell x).toArray 42 (0, 0)))
    (fun x a' s X Y row hx hg hr => by
      obtain ⟨k, e, hk⟩ := hx
      exact ⟨k, e, (hg.block k (Array.getElem?_eq_some_iff.1 hk).1 (fun e' => by obtain ⟨_, o, ho, hc⟩ := hr k e'.symm; rw [hk] at ho; cases ho; cases hc)).trans hk⟩)
    ?assign ?body ?done ?stop
  case assign =>
    rintro l pre x W K ⟨⟨⟨v, hv1, hrow, _⟩, hS⟩, hB⟩ hK
    have hBs := hB.size
    gi_wp2
    exact hK _ _ ((KeepsOthers.alloc W _).from _) (Keep.of_below ((Below.refl _ W).alloc (Nat.le_refl _) _) (by omega) hS.lt) ⟨⟨⟨v, hv1.alloc _, hrow.alloc _, trivial⟩, hS.kept (World.grownBy_alloc _ _ none) (by simp)⟩, hB.alloc (by omega) _⟩ ⟨W.heap.size, rfl, heap_alloc_new W _⟩
  case body =>
    rintro l pre x a' W hl _ ⟨⟨⟨v, hv1, hrow, _⟩, hS⟩, hB⟩ ⟨k, rfl, hk⟩ hlt
    have hc := hv1.cell
    have hf := hv1.frozen
    have hBs := hB.size
    have p0 : W.cell? ⟨k, 0, none⟩ = some (.int .i64 x.1) := by simp [World.cell?, hk, stCell]
    have p1 : W.cell? ⟨k, 1, none⟩ = some (.int .i32 x.2.1) := by simp [World.cell?, hk, stCell]
    have p2 : W.cell? ⟨k, 2, none⟩ = some (.int .i32 x.2.2) := by simp [World.cell?, hk, stCell]
    have hne : v.ownBlock ≠ some (n₀ + 1 + 1) := own_ne hrow hS (by decide)
    gi_wp2_with (gi_at_builtin; refine wpListIn_append_own _ rfl _ _ 23 rfl n₀ 42 i0 _ 3 16 Tryd.underlying23 hi hz0 hz1 hz2 rfl (by decide) _ _ _ rfl (hrow.alloc _) ⟨W.heap.size, 0, none⟩ 1 1 (stCell x) rfl rfl (st_cells W x) (st_one x) (by unfold maxLen; omega) (by omega) (by simp; omega) ?_; intro v' w1' hown' hgrow _; obtain ⟨g', cap', rfl⟩ := ownsRow_succ hown'; have hS1 : TBox (w1'.setCell ⟨n₀ + 1, 0, none⟩ (.slice (some ⟨g', 0, none⟩) (pre.length + 1) cap')) (n₀ + 1 + 1) (.slice A n ca) (.slice B m cb) (.slice (some ⟨G, 0, none⟩) (n + 1) dc) := ((hS.kept (World.grownBy_alloc _ _ none) (by simp)).kept hgrow (fun e => hne e.symm)).kept (grown_setCell _ _ _ _) (by simp); obtain ⟨hv1', hv2, hr2, hk2, hb2⟩ := hv1.appended (by decide) hrow (by omega) (by omega) hown' hgrow; have hc1 := hv1'.cell; have hf1 := hv1'.frozen)
    exact ⟨hk2.from _, ⟨hb2, Eq.trans hS1 (Eq.symm hS)⟩, ⟨⟨_, hv2, by rw [stCells_snoc]; simpa using hr2, trivial⟩, hS1⟩, hB.trans hb2⟩
  case done =>
    rintro D' ys W hD rfl ⟨⟨⟨v, hv1, hrow, _⟩, hS⟩, hB⟩ hK
    have hc := hv1.cell
    have hll : (pathR x.reverse y.reverse).length ≤ 1000000 := by
      have := pathR_length x.reverse y.reverse
      simp at this
      omega
    have cR := reverse_any v _ n₀ W hrow hll
    obtain ⟨A', cc', rfl, _⟩ := StRuns.of_own hrow
    gi_wp2_with (refine ⟨trivial, ?_⟩; gi_at_call 25; refine (callsIn_wide.2 cR).mono ?_; rintro e w5 ⟨rfl, hst, hb5, hblk, hsz⟩; have hc5 : w5.cell? ⟨n₀ + 1, 0, none⟩ = _ := (World.cell?_of_block (hblk (n₀ + 1) (own_ne hrow hv1 (by decide)))).trans hc; have hD5 : w5.heap[D']? = _ := (hblk D' (own_not hrow hK)).trans hK)
    refine ⟨by simp, .inl ⟨_, _, rfl, run_takeDeferred hD5, ?_⟩⟩
    refine ⟨_, results_tmp2 rfl _ _ _, ?_⟩
    have hbD : Below n₀ w5 (w5.putObj D' (.deferred none)) := belowK_b (w := w1) (Nat.le_of_eq hn₀.symm) w5 D' _ _ (by omega) hD5 rfl rfl
    exact ⟨_, rfl, hst.kept (by simp) (fun b k z hz => World.putObj_heap_other (fun e => by subst e; simp [World.cell?, hD5] at hz)), B1.out.trans (((hB.trans hb5).trans hbD).mono (by rw [← hn₀]; exact B1.out.size))⟩
  case stop => exact fun D c pre W hD hp hF _ => hF.elim
end Go.Proofs.YthigbnklekdemaaDoor
