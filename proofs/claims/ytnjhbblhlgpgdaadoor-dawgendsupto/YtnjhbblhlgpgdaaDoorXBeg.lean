/- lexicon.Begins: where those stand that begin with some bytes. -/
import Derived.Test.YtnjhbblhlgpgdaaDoorPk12
import Derived.Test.YtnjhbblhlgpgdaaDoorXPlace
namespace Go.Proofs.YtnjhbblhlgpgdaaDoor
open Go.RowKit Go.Shelf
attribute [local go_sem] Oper.semAt_some
set_option linter.unusedSimpArgs false
set_option linter.unusedVariables false

/-- Behind the last of some places, as it is stored. -/
def bhw (m : Nat) (pre : List Nat) : Int := match pre.getLast? with
  | none => (m : Int)
  | some j => IntKind.i64.wrap ((j : Int) + 1)
theorem bhw_range (m k : Nat) (h : m + k ≤ 2000000) : bhw m (List.range' m k) = (m : Int) + (k : Int) := by
  cases k with
  | zero => simp [bhw]
  | succ k =>
    unfold bhw
    rw [List.range'_concat, List.getLast?_concat]
    simp only
    rw [IntKind.wrap_i64]
    omega
theorem bhw_snoc (m : Nat) (pre : List Nat) (x : Nat) : bhw m (pre ++ [x]) = IntKind.i64.wrap ((x : Int) + 1) := by
  unfold bhw; rw [List.getLast?_concat]
theorem range_snoc {m N x : Nat} {z : List Nat} (h : z ++ [x] <+: List.range' m (N - m)) : z = List.range' m z.length ∧ x = m + z.length ∧ z.length < N - m := by
  obtain ⟨t, ht⟩ := h
  have hl := congrArg List.length ht
  simp only [List.length_append, List.length_cons, List.length_nil, List.length_range'] at hl
  have e : List.range' m (N - m) = List.range' m (z.length + 1) ++ List.range' (m + (z.length + 1)) (N - m - (z.length + 1)) := by
    rw [List.range'_append_1]; congr 1; omega
  rw [e] at ht
  have h1 := List.append_inj ht (by simp)
  have h2 := h1.1
  rw [List.range'_concat] at h2
  have h3 := List.append_inj h2 (by simp)
  refine ⟨h3.1, ?_, by omega⟩
  have := h3.2
  simp at this
  omega
/-- How many begin so, where the first ones do, and the next one doesn't. -/
theorem bgN_upto {l : List Wrd} {s : ByteArray} (k : Nat) (hk : bgF l s + k ≤ l.length) (h1 : ∀ j ∈ List.range' (bgF l s) k, preK s (wget l j).1 = true) (h2 : ∀ y, l[bgF l s + k]? = some y → preK s y.1 = false) : bgN l s = k := by
  unfold bgN
  refine tw_len _ _ _ (fun j y hj hy => ?_) (by rw [List.length_drop]; omega) (fun y hy => ?_)
  · rw [List.getElem?_drop] at hy
    have := h1 (bgF l s + j) (by rw [List.mem_range'_1]; omega)
    rw [wget_at hy] at this
    exact this
  · rw [List.getElem?_drop] at hy
    exact h2 y hy

set_option maxRecDepth 100000 in
set_option maxHeartbeats 16000000 in
theorem xbegins_any (u : Value) (l : List Wrd) (s : ByteArray) (w : World) (hO : Okw w) (hu : WRuns w u l) (hl : l.length ≤ 2000000) (hz : szW l) :
    Calls Tryd.prog 33 #[u, .string s] w fun e w' => e = .returned (.tuple #[.int .i64 (wbgF l s), .int .i64 (wbgT l s), .int .i64 (wisS l)]) ∧ Below w.heap.size w w' := by
  have hba := bel_one w (.cells #[.string s] 9)
  have ce := xis_any u l (w.alloc (.cells #[.string s] 9)) (hO.below hba) (hu.below hba) hl hz
  by_cases h0 : wisS l = 0
  · rw [wbgF, wbgT, if_pos h0, if_pos h0, h0]
    rw [h0] at ce
    have hsr := (wisS_facts h0).2.1
    have cs := fun w hu => xplace_any u l s w hu hl hsr
    have hup := fun k hk h1 h2 => bgN_upto (l := l) (s := s) k hk h1 h2
    have hml := bgF_le l s
    obtain ⟨A, c, e⟩ := hu.slice
    subst e
    obtain ⟨n, hn⟩ : ∃ n, l.length = n := ⟨_, rfl⟩
    rw [hn] at hu ce hl hml hup ⊢
    simp only [hn] at cs
    obtain ⟨q, hq⟩ : ∃ z, bgN l s = z := ⟨_, rfl⟩
    obtain ⟨m, hm⟩ : ∃ z, bgF l s = z := ⟨_, rfl⟩
    rw [hq] at hup ⊢
    rw [hm] at hup hml ⊢
    simp only [hm] at cs
    obtain ⟨st, hst⟩ : ∃ z, isAt l m s = z := ⟨_, rfl⟩
    simp only [hst] at cs
    have CE := Lib.hid ce; have HU := Lib.hid (hu.below hba); have HN := Lib.hid hn; have CS := Lib.hid cs; have HUP := Lib.hid hup; have HBA := Lib.hid hba
    have bS0 := Boxed.new w 9 (.string s)
    have BS0 := Lib.hid bS0
    clear ce hu hn cs hup hq hm hst h0 hsr hz hO hba bS0
    refine (callsIn_wide (n := 6)).1 ?_
    refine callsIn_of_wp_marks Tryd.func33 rfl trivial ?_ rfl
    simp only [Tryd.ntmps33, List.size_toArray, List.length_cons, List.length_nil, Nat.reduceAdd, Nat.reduceSub, Array.replicate_succ, Array.replicate_zero, List.push_toArray, List.append_toArray, List.nil_append, List.cons_append]
    gi_wp2
    refine wpIn_wide.2 (wp_scope_straight ((wpIn_wide (n := 6)).1 ?_))
    gi_wp2_with (first
      | (refine ⟨trivial, ?_⟩; gi_at_call 35; refine (callsIn_wide.2 CE.out).mono ?_; rintro e w1 ⟨rfl, b1⟩; have BS1 := Lib.hid (Boxed.kept BS0.out (grown_none b1) (by simp)); have cS := BS1.out.cell; have U1 := Lib.hid (HU.out.below b1); have B1 := Lib.hid (HBA.out.trans (b1.mono HBA.out.size)); clear b1)
      | (refine ⟨trivial, ?_⟩; gi_at_call 53; refine (callsIn_wide.2 (CS.out _ U1.out)).mono ?_; rintro e w2 ⟨rfl, b2⟩; have BS2 := Lib.hid (Boxed.kept BS1.out (grown_none b2) (by simp)); have U2 := Lib.hid (U1.out.below b2); have B2 := Lib.hid (B1.out.trans (b2.mono B1.out.size)); clear b2 cS)
      | (refine ⟨trivial, ?_⟩; gi_at_call 54; refine (callsIn_wide.2 (from_any _ _ _ _ _)).mono ?_; rintro e w' ⟨rfl, rfl⟩)
      | (refine wpIn_label ?_))
    have bB := Boxed.new w2 3 (.int .i64 (m : Nat))
    have bL := Boxed.new (w2.alloc (.cells #[.int .i64 (m : Nat)] 3)) 22 (.slice A n c)
    have bA := Boxed.new ((w2.alloc (.cells #[.int .i64 (m : Nat)] 3)).alloc (.cells #[.slice A n c] 22)) 3 (.int .i64 (m : Nat))
    simp only [World.size_alloc] at bL bA ⊢
    have hB0 : Below w2.heap.size w2 (((w2.alloc (.cells #[.int .i64 (m : Nat)] 3)).alloc (.cells #[.slice A n c] 22)).alloc (.cells #[.int .i64 (m : Nat)] 3)) := (((Below.refl _ w2).alloc (Nat.le_refl _) _).alloc (by simp) _).alloc (by simp <;> omega) _
    have hsl : w.heap.size < w2.heap.size := BS2.out.lt
    have hS2 := BS2.out.cell
    refine wpIn_rangeFunc_ownH rfl (by decide) (gf := 82) (lb := #[.pointer (some ⟨w2.heap.size + 1 + 1, 0, none⟩), .pointer (some ⟨w2.heap.size + 1, 0, none⟩)]) rfl trivial (enters_of Tryd.func82 (by kernel_rfl) rfl)
      (from_stops 5 (by decide) (w2.heap.size + 1) (w2.heap.size + 1 + 1) w2.heap.size A n c m l HN.out hl hml w2 rfl U2.out _ (by simp <;> omega) hB0 (by simp <;> omega) (by simp <;> omega) ((bL.alloc _).cell) bA.cell) Keep2.trans (keep2_b (by simp <;> omega) (by simp <;> omega) (by simp <;> omega)) (Below.refl _ _) (fun _ => rfl)
      (fun (pre : List Nat) W => (((∀ j ∈ pre, preK s (wget l j).1 = true) ∧ Boxed W w2.heap.size 3 (.int .i64 (bhw m pre))) ∧ Below w2.heap.size w2 W) ∧ w2.heap.size + 3 ≤ W.heap.size)
      (fun cc (pre : List Nat) W => (∃ (z : List Nat) (x : Nat), (cc = .exit 0 ∧ pre = z ++ [x] ∧ (∀ j ∈ z, preK s (wget l j).1 = true) ∧ preK s (wget l x).1 = false) ∧ Boxed W w2.heap.size 3 (.int .i64 (bhw m z))) ∧ Below w2.heap.size w2 W)
      (OwnFrom.and (OwnFrom.and (OwnFrom.and (ownFrom_pure _ (fun pre : List Nat => ∀ j ∈ pre, preK s (wget l j).1 = true)) (Own.from (boxed_own _ _ _) _)) (ownFrom_below (Nat.le_refl _) (by simp <;> omega))) (fun _ _ _ _ h hg _ => Nat.le_trans h hg.size))
      (fun cc => OwnFrom.and (fun pre W W' row hx hg hr => by
        obtain ⟨z, x, h1, h2⟩ := hx
        exact ⟨z, x, h1, (Own.from (boxed_own w2.heap.size 3 (fun _ : List Nat => Value.int .i64 (bhw m z))) _) pre W W' row h2 hg hr⟩) (ownFrom_below (Nat.le_refl _) (by simp <;> omega)))
      ⟨⟨⟨by simp, (bB.alloc _).alloc _⟩, hB0⟩, by simp <;> omega⟩
      (fun x a' W => ∃ k, a' = { tmps := #[.slice A n c, .string s, undef, .pointer (some ⟨w.heap.size, 0, none⟩), .int .i64 0, .int .i64 0, .int .i64 0, .int .i64 0, .int .i64 m, .bool st, .pointer (some ⟨w2.heap.size, 0, none⟩), .int .i64 x, .pointer (some ⟨k, 0, none⟩), .slice A n c, .int .i64 0, .int .i64 0, .bool false, undef, .tuple #[.int .i64 m, .bool st], .slice A n c, .string s, .tuple #[.int .i64 m, .bool st], .int .i64 m, .bool st, .int .i64 m, .slice A n c, .int .i64 m, .func (.func 82) #[] #[.pointer (some ⟨w2.heap.size + 1 + 1, 0, none⟩), .pointer (some ⟨w2.heap.size + 1, 0, none⟩)], .int .i64 x, .agg #[.string (wget l x).1, .int .i64 (wget l x).2], undef, undef, undef, undef, undef, undef, undef, undef, undef], defers := [] } ∧ (w2.heap.size < k ∧ W.heap[k]? = some (.cells #[.string (wget l x).1, .int .i64 (wget l x).2] 55 (0, 0))))
      ?hAx ?assign ?body ?done ?stop
    case hAx =>
      rintro x a' _ W W' row ⟨k, h1, h2, h3⟩ hg hr
      exact ⟨k, h1, h2, (hg.block k (Array.getElem?_eq_some_iff.1 h3).1 (fun e => by
        obtain ⟨_, o, ho, hc⟩ := hr k e.symm
        rw [h3] at ho; cases ho; cases hc)).trans h3⟩
    case assign =>
      rintro lp pre x W K ⟨⟨⟨hp, hE⟩, hB⟩, hsz⟩ hK
      have hWs := hE.lt
      simp only [fromEnc]
      gi_wp2
      exact hK _ _ ⟨by simp, fun k o' _ h _ => (Below.heap_alloc _ _ _ (Array.getElem?_eq_some_iff.1 h).1).trans h⟩ (Keep2.of_below (bel_one _ _) hB.size (by omega) (by omega)) ⟨⟨⟨hp, hE.alloc _⟩, hB.trans ((bel_one _ _).mono hB.size)⟩, by simp <;> omega⟩ ⟨W.heap.size, rfl, hWs, World.alloc_heap_new _ _⟩
    case body =>
      rintro lp pre x a' W hl hr ⟨⟨⟨hp, hE⟩, hB⟩, hsz⟩ ⟨k, rfl, hk1, hk2⟩ hlt
      have y0 : W.cell? ⟨k, 0, none⟩ = some (.string (wget l x).1) := by simp [World.cell?, hk2]
      have hce := hE.cell
      have hfe := hE.frozen
      have hcs := (hB.cell (p := ⟨w.heap.size, 0, none⟩) hsl).trans hS2
      have cp := fun W => Tryd.strings_HasPrefix (wget l x).1 s W
      have epk : Lib.hasPrefix (wget l x).1.data.toList s.data.toList = preK s (wget l x).1 := rfl
      simp only [epk] at cp
      obtain ⟨pk, hpk⟩ : ∃ z, preK s (wget l x).1 = z := ⟨_, rfl⟩
      simp only [hpk] at cp
      obtain ⟨v, hv⟩ : ∃ v, IntKind.i64.wrap ((x : Int) + 1) = v := ⟨_, rfl⟩
      have HP := Lib.hid hp; have CP := Lib.hid cp; have HPK := Lib.hid hpk; have HB := Lib.hid hB; have HE := Lib.hid hE
      have HBH : Hid (bhw m (pre ++ [x]) = v) := Lib.hid (by rw [bhw_snoc]; exact hv)
      have hne : k ≠ w2.heap.size := by omega
      clear hp cp epk hpk hB hE hr hk2
      cases pk
      · gi_wp2_with (refine ⟨trivial, ?_⟩; gi_at_call 55; refine (CallsIn.inRound lp (callsIn_wide.2 (CP.out _))).mono ?_; rintro e w5 ⟨rfl, e5⟩; obtain rfl := e5.symm)
        exact ⟨KeepsFrom.refl _ _, ⟨pre, x, ⟨rfl, rfl, HP.out, HPK.out⟩, HE.out⟩, HB.out⟩
      · gi_wp2_with (refine ⟨trivial, ?_⟩; gi_at_call 55; refine (CallsIn.inRound lp (callsIn_wide.2 (CP.out _))).mono ?_; rintro e w5 ⟨rfl, e5⟩; obtain rfl := e5.symm)
        refine ⟨(KeepsOthers.setCell _ _ _).from _, ⟨(Below.refl _ _).setCell (p := ⟨w2.heap.size, 0, none⟩) (Nat.le_refl _) _, Below.heap_setCell _ _ _ _ (by simp), Below.heap_setCell _ _ _ _ (by simp <;> omega)⟩, ⟨⟨fun j hj => ?_, ?_⟩, HB.out.setCell (p := ⟨w2.heap.size, 0, none⟩) (Nat.le_refl _) _⟩, by rw [World.size_setCell]; exact hsz⟩
        · rcases List.mem_append.1 hj with h | h
          · exact HP.out j h
          · obtain rfl : j = x := (by simpa using h)
            exact HPK.out
        · rw [HBH.out]
          exact HE.out.set _
    case done =>
      rintro D ys W hD rfl ⟨⟨⟨hp, hE⟩, hB⟩, _⟩ hK
      have hce := hE.cell
      have hq := HUP.out (n - m) (by omega) hp (fun y hy => by rw [show m + (n - m) = n by omega, List.getElem?_eq_none (by rw [HN.out]; exact Nat.le_refl _)] at hy; cases hy)
      rw [bhw_range m (n - m) (by omega), ← hq] at hce
      clear hp hq
      gi_wp2
      refine wpIn_wide.2 ?_
      go_quiet (fail)
      obtain ⟨W5, hW5⟩ : ∃ W5, W5 = W.drewN nq := ⟨_, rfl⟩
      have hK5 : W5.heap[D]? = some (.deferred (some [])) := by rw [hW5]; exact hK
      have hB5 : Hid (Below w.heap.size w W5) := Lib.hid (by rw [hW5]; exact below_draws (B2.out.trans (hB.mono B2.out.size)) _)
      have hD5 : w.heap.size ≤ D := by simp at hD; omega
      have hc5 : W5.cell? ⟨w2.heap.size, 0, none⟩ = some (.int .i64 ((m : Int) + (q : Int))) := by rw [hW5]; exact hce
      rw [← hW5]
      clear hW5 hK hB hce
      gi_wp2
      rw [Exit.noGoto_ret]
      refine ⟨by simp, .inl ⟨_, _, rfl, run_takeDeferred hK5, ?_⟩⟩
      refine ⟨_, results_tmp3 rfl _ _ _, ?_⟩
      exact ⟨rfl, hB5.out.trans (belowK_b (w := w) (Nat.le_refl _) W5 D _ _ hD5 hK5 rfl rfl)⟩
    case stop =>
      rintro D cc pre W hD hp ⟨⟨z, x, ⟨rfl, rfl, hz, hx⟩, hE⟩, hB⟩ hK
      have hce := hE.cell
      obtain ⟨h1, h2, h3⟩ := range_snoc hp
      have hq := HUP.out z.length (by omega) (by rw [← h1]; exact hz) (fun y hy => by rw [← h2] at hy; rw [← wget_at hy]; exact hx)
      rw [h1, bhw_range m z.length (by omega), ← hq] at hce
      clear hp hz hx hE h1 h2 h3 hq
      gi_wp2
      refine wpIn_wide.2 ?_
      go_quiet (fail)
      obtain ⟨W5, hW5⟩ : ∃ W5, W5 = W.drewN nq := ⟨_, rfl⟩
      have hK5 : W5.heap[D]? = some (.deferred (some [])) := by rw [hW5]; exact hK
      have hB5 : Hid (Below w.heap.size w W5) := Lib.hid (by rw [hW5]; exact below_draws (B2.out.trans (hB.mono B2.out.size)) _)
      have hD5 : w.heap.size ≤ D := by simp at hD; omega
      have hc5 : W5.cell? ⟨w2.heap.size, 0, none⟩ = some (.int .i64 ((m : Int) + (q : Int))) := by rw [hW5]; exact hce
      rw [← hW5]
      clear hW5 hK hB hce
      gi_wp2
      rw [Exit.noGoto_ret]
      refine ⟨by simp, .inl ⟨_, _, rfl, run_takeDeferred hK5, ?_⟩⟩
      refine ⟨_, results_tmp3 rfl _ _ _, ?_⟩
      exact ⟨rfl, hB5.out.trans (belowK_b (w := w) (Nat.le_refl _) W5 D _ _ hD5 hK5 rfl rfl)⟩
  · have h0' : (wisS l == 0) = false := by simpa using h0
    rw [wbgF, wbgT, if_neg h0, if_neg h0]
    obtain ⟨er, her⟩ : ∃ z, wisS l = z := ⟨_, rfl⟩
    rw [her] at ce h0' ⊢
    have CE := Lib.hid ce; have HBA := Lib.hid hba
    clear ce hu hz h0 her hba hO
    go_enter Tryd.func33, Tryd.ntmps33
    go_wp2
    refine wp_scope_straight ?_
    go_wp2_with fail
    refine CE.out.mono ?_
    rintro e w1 ⟨rfl, b1⟩
    have B1 := Lib.hid (HBA.out.trans (b1.mono HBA.out.size)); clear b1
    go_wp2
    rw [Exit.noGoto_ret]
    go_ret3
    exact ⟨rfl, B1.out⟩
end Go.Proofs.YtnjhbblhlgpgdaaDoor
