/- Texts that several proofs of this seat share, one behind the other: ZBuild XRef XChk. -/
import Derived.Test.YtljaibhhkjapmaaDoorPk13
import Derived.Test.YtljaibhhkjapmaaDoorPk14
import Derived.Test.YtljaibhhkjapmaaDoorPk9
import Derived.Deep.RegionHeld3
import Derived.Test.YtljaibhhkjapmaaDoorPk6
/- dawg.build: the automaton of normal words is laid. -/
namespace Go.Proofs.YtljaibhhkjapmaaDoor
open Go.RowKit Go.Shelf Go.Lib
attribute [local go_sem] Oper.semAt_some
set_option linter.unusedSimpArgs false
set_option linter.unusedVariables false

theorem rnW_facts {L : List Wrd} (h : wisS L = 0) : ∀ l ∈ rnW L, l ≠ [] ∧ l.length ≤ 64 ∧ ∀ r ∈ l, R32 r := by
  obtain ⟨h1, _, _⟩ := wisS_facts h
  intro l hl
  obtain ⟨x, hx, rfl⟩ := List.mem_map.1 hl
  have hc := wall_zero.1 h1 x hx
  have hv := wchk_valid hc
  have ht : tokErr x.1.data.toList = 0 := by
    unfold wchk at hc
    split at hc
    · assumption
    · exact absurd hc (by assumption)
  unfold tokErr at ht
  rw [if_pos hv] at ht
  refine ⟨fun e => ?_, ?_, fun r hr => ?_⟩
  · rw [show items x.1.data.toList = [] from e] at ht
    cases ht
  · show (items x.1.data.toList).length ≤ 64
    split at ht
    · cases ht
    · split at ht
      · cases ht
      · omega
  · have := items_runes _ hv r hr
    unfold Lib.validRune at this
    simp at this
    unfold R32
    omega
theorem ltrs_take_succ {RW : Rst} {i : Nat} {l : List Int} (h : RW[i]? = some l) : ltrs (RW.take (i + 1)) = ltrs (RW.take i) + l.length := by
  rw [List.take_add_one, h]
  unfold ltrs
  simp
theorem ltrs_take_le (RW : Rst) (i : Nat) : ltrs (RW.take i) ≤ ltrs RW := by
  have h : ltrs RW = ltrs (RW.take i) + ltrs (RW.drop i) := by
    unfold ltrs
    rw [← List.sum_append, ← List.map_append, List.take_append_drop]
  omega
theorem Bld.ownFrom {w w' : World} {q m n0 k B : Nat} {D : DataW Unit} {W : List (Nat × Int)} {F : List Fz} {vw vf : Value} {row : Option Nat} (h : Bld w q m n0 k D W F vw vf) (hg : w.grownBy w' row) (hr : ∀ r, row = some r → B ≤ r ∧ ∃ o : Obj, w.heap[r]? = some o ∧ o.isCells = false) (hm : m < B) : Bld w' q m n0 k D W F vw vf := by
  have key : ∀ {size n : Nat} {T : TypeId} {v : Value} {xs : List Value}, w.ownsRow n0 T size v n xs → v.ownBlock = none ∨ v.ownBlock ≠ row := fun {size n T v xs} hv => by
    rcases hv.2 with ⟨rfl, _⟩ | ⟨g, cap, cur, rfl, _, hh, _⟩
    · exact .inl rfl
    · right
      intro e
      obtain ⟨_, o, ho, hc⟩ := hr g e.symm
      rw [hh] at ho
      cases ho
      cases hc
  refine h.kept hg (fun e => ?_) (fun e => by have := (hr m e.symm).1; omega) (key h.way) (key h.frz)
  obtain ⟨_, o, ho, hc⟩ := hr q e.symm
  rw [h.box] at ho
  cases ho
  cases hc
theorem boxed_from {w w' : World} {B b : Nat} {t : TypeId} {v : Value} {row : Option Nat} (h : Boxed w b t v) (hg : w.grownBy w' row) (hr : ∀ r, row = some r → B ≤ r ∧ ∃ o : Obj, w.heap[r]? = some o ∧ o.isCells = false) : Boxed w' b t v :=
  (hg.block b h.lt (fun e => by
    obtain ⟨_, o, ho, hc⟩ := hr b e.symm
    unfold Boxed at h
    rw [h] at ho
    cases ho
    cases hc)).trans h
/-- What lies there while words are opened: the first i of them are. -/
structure BdI (w W : World) (q m n0 M Bb Bl : Nat) (vl : Value) (RW : Rst) (i : Nat) : Prop where
  st : ∃ F R P s, BSt W q m n0 M (2 + ltrs (RW.take i)) F R P s (RW.take i) ∧ (∀ a u, (a :: u) ∉ rq R s) ∧ ∀ l, RW[i]? = some l → P.map (·.2) < l
  bb : Boxed W Bb 134 (.pointer (some ⟨q, 0, none⟩))
  bl : Boxed W Bl 22 vl
  bel : Below n0 w W
  le : n0 ≤ q ∧ n0 ≤ m ∧ q < Bb ∧ m < Bb ∧ Bb < Bl
theorem BdI.own (w : World) (q m n0 M Bb Bl B : Nat) (vl : Value) (RW : Rst) (hB : Bl < B) : OwnFrom B (fun i W => BdI w W q m n0 M Bb Bl vl RW i) := by
  intro i W W' row h hg hr
  obtain ⟨l1, l2, l3, l4, l5⟩ := h.le
  obtain ⟨F, R, P, s, ⟨k, D, x, vw, vf, hb, h2⟩, h3⟩ := h.st
  exact ⟨⟨F, R, P, s, ⟨k, D, x, vw, vf, hb.ownFrom hg hr (by omega), h2⟩, h3⟩, boxed_from h.bb hg hr, boxed_from h.bl hg hr, h.bel.grown hg hb.lt.2.2 (fun r e => by have := (hr r e).1; omega), h.le⟩
theorem six_at (w : World) (o0 o1 o2 o3 o4 o5 : Obj) (n0 : Nat) (h : w.heap.size = n0) (W : World) (hW : (((((w.alloc o0).alloc o1).alloc o2).alloc o3).alloc o4).alloc o5 = W) :
    W.heap.size = n0 + 6 ∧ W.heap[n0]? = some o0 ∧ W.heap[n0 + 1]? = some o1 ∧ W.heap[n0 + 2]? = some o2 ∧ W.heap[n0 + 3]? = some o3 ∧ W.heap[n0 + 4]? = some o4 ∧ W.heap[n0 + 5]? = some o5 ∧ Below n0 w W ∧ Below (n0 + 3) (((w.alloc o0).alloc o1).alloc o2) W := by
  subst hW
  have up : ∀ {V : World} {k : Nat} {o : Obj} (o' : Obj), V.heap[k]? = some o → (V.alloc o').heap[k]? = some o := fun {V k o} o' e => (Below.heap_alloc V o' k (Array.getElem?_eq_some_iff.1 e).1).trans e
  have nw : ∀ (V : World) (o : Obj) (k : Nat), V.heap.size = k → (V.alloc o).heap[k]? = some o := fun V o k e => by rw [← e]; exact heap_alloc_new V o
  have s1 : (w.alloc o0).heap.size = n0 + 1 := by simp [h]
  have s2 : ((w.alloc o0).alloc o1).heap.size = n0 + 2 := by simp [h]
  have s3 : (((w.alloc o0).alloc o1).alloc o2).heap.size = n0 + 3 := by simp [h]
  have s4 : ((((w.alloc o0).alloc o1).alloc o2).alloc o3).heap.size = n0 + 4 := by simp [h]
  have s5 : (((((w.alloc o0).alloc o1).alloc o2).alloc o3).alloc o4).heap.size = n0 + 5 := by simp [h]
  refine ⟨by simp [h], up _ (up _ (up _ (up _ (up _ (nw _ _ _ h))))), up _ (up _ (up _ (up _ (nw _ _ _ s1)))), up _ (up _ (up _ (nw _ _ _ s2))), up _ (up _ (nw _ _ _ s3)), up _ (nw _ _ _ s4), nw _ _ _ s5, ?_, ?_⟩
  · exact ((((((Below.refl n0 w).alloc (by omega) o0).alloc (by omega) o1).alloc (by omega) o2).alloc (by omega) o3).alloc (by omega) o4).alloc (by omega) o5
  · exact (((Below.refl (n0 + 3) _).alloc (by omega) o3).alloc (by omega) o4).alloc (by omega) o5
theorem fz0_frI (M : Nat) (hM : 1 ≤ M) : FrI M 2 fz0 [[], [[]]] [] 0 [] :=
  ⟨FzOk.start hM, ⟨fun p hp => absurd hp List.not_mem_nil, fun p hp => absurd hp List.not_mem_nil, by decide, fun h => absurd rfl h⟩, rfl, Nat.zero_le _, by decide, fun f hf => by
    simp only [fz0, List.mem_cons, List.mem_nil_iff, or_false] at hf
    rcases hf with rfl | rfl <;> exact ⟨by decide, by decide, by decide, by decide⟩, fun p hp => absurd hp List.not_mem_nil⟩
/-- A region that ends in no other way. -/
def ZIn (S : Act → World → Prop) : Exit → Act → World → Prop
  | .normal, a, w => S a w
  | _, _, _ => False
theorem z_normal {P : Program} {id : Nat} {ops : Array Oper} {b : Bool} {Q : Exit → Act → World → Prop} {a : Act} {w : World} (h : (Code.region id ops b).wp P (ZIn (Q .normal)) a w) : (Code.region id ops b).wp P Q a w :=
  Code.wp_mono (fun e a w h => by
    cases e
    case normal => exact h
    all_goals exact (h : False).elim) h
/-- The automaton as it is built. -/
def BuildPost (w : World) (Q : List Rst) (e : Ending) (w' : World) : Prop :=
  ∃ d vs ve, e = .returned (.pointer (some ⟨d, 0, none⟩)) ∧ LdM w w' w.heap.size d (staK Q Q.length) (edK Q Q.length) vs ve

set_option maxRecDepth 100000 in
set_option maxHeartbeats 16000000 in
theorem build_any (A : Option Addr) (c : Nat) (L : List Wrd) (N : Nat) (hN : L.length = N) (w : World) (hO : Okw w) (hv : WRuns w (.slice A N c) L) (hn : wisS L = 0) (hsz : ∀ x ∈ L, x.1.size * 4 ≤ 140737488355328) :
    Calls Tryd.prog 44 #[.slice A N c] w (BuildPost w (staQ (rnW L))) := by
  obtain ⟨n0, hn0⟩ : ∃ z, w.heap.size = z := ⟨_, rfl⟩
  have hL : N ≤ 65536 := by rw [← hN]; exact (wisS_facts hn).2.2
  have hval : ∀ x ∈ L, Lib.validD x.1.data.toList = true ∧ x.1.size * 4 ≤ 140737488355328 := fun x hx => ⟨wchk_valid (wall_zero.1 (wisS_facts hn).1 x hx), hsz x hx⟩
  have hfa := rnW_facts hn
  have hri := rnW_rising hn
  have hhs := spell_seq 5 (by decide) (n0 + 5) n0 A N c L hN (by omega) hval w hn0 hO hv
  obtain ⟨RW, hRW⟩ : ∃ z, rnW L = z := ⟨_, rfl⟩
  have hRN : RW.length = N := by rw [← hRW]; unfold rnW; rw [List.length_map, hN]
  rw [hRW] at hfa hri hhs ⊢
  have hlt : ltrs RW ≤ 4194304 := by
    have h : ∀ l : Rst, (∀ x ∈ l, x.length ≤ 64) → ltrs l ≤ l.length * 64 := by
      intro l
      induction l with
      | nil => intro _; exact Nat.le_refl _
      | cons a l ih =>
        intro h
        have h1 := ih (fun x hx => h x (by simp [hx]))
        have h2 := h a (by simp)
        show (((a :: l).map List.length).sum) ≤ _
        rw [List.map_cons, List.sum_cons, List.length_cons, Nat.succ_mul]
        unfold ltrs at h1
        omega
    have := h RW (fun x hx => (hfa x hx).2.1)
    rw [hRN] at this
    omega
  have HFA := Lib.hid hfa; have HRI := Lib.hid hri; have HSQ := Lib.hid hhs; have HRN := Lib.hid hRN; have HN0 := Lib.hid hn0
  clear hfa hri hhs hval hv hO hn hsz hRW hRN hN
  refine (callsIn_wide (n := 6)).1 ?_
  refine callsIn_of_wp_marks Tryd.func44 rfl trivial ?_ rfl
  simp only [Tryd.ntmps44, List.size_toArray, List.length_cons, List.length_nil, Nat.reduceAdd, Nat.reduceSub, Array.replicate_succ, Array.replicate_zero, List.push_toArray, List.append_toArray, List.nil_append, List.cons_append]
  have hmm := @run_makeMap Tryd.prog
  gi_wp2_with (refine ⟨trivial, ?_⟩; gi_at_call 70; refine (callsIn_wide.2 (spelled_any A N c _)).mono ?_; rintro e w' ⟨rfl, rfl⟩)
  obtain ⟨W6, hW6⟩ : ∃ z, (((((w.alloc (Obj.cells #[Value.int IntKind.i32 0, Value.int IntKind.i32 0] 136)).alloc
      (Obj.cells #[Value.int IntKind.i32 0, Value.int IntKind.i32 0, Value.int IntKind.i32 0, Value.int IntKind.i32 0, Value.bool false, Value.int IntKind.i32 0, Value.int IntKind.i32 0, Value.int IntKind.i32 0, Value.int IntKind.i32 1, Value.bool true] 141)).alloc
      (Obj.map #[] 0)).alloc (Obj.cells #[Value.slice (some ⟨n0, 0, none⟩) 1 1, Value.slice (some ⟨n0 + 1, 0, none⟩) 2 2, Value.map (some (n0 + 2))] 145)).alloc
      (Obj.cells #[Value.pointer (some ⟨n0 + 3, 0, none⟩)] 134)).alloc (Obj.cells #[Value.slice A N c] 22) = z := ⟨_, rfl⟩
  obtain ⟨z6, z0, z1, z2, z3, z4, z5, zb, zb3⟩ := six_at w _ _ _ _ _ _ n0 HN0.out W6 hW6
  have hmade := TlMap.made ((w.alloc (Obj.cells #[Value.int IntKind.i32 0, Value.int IntKind.i32 0] 136)).alloc
      (Obj.cells #[Value.int IntKind.i32 0, Value.int IntKind.i32 0, Value.int IntKind.i32 0, Value.int IntKind.i32 0, Value.bool false, Value.int IntKind.i32 0, Value.int IntKind.i32 0, Value.int IntKind.i32 0, Value.int IntKind.i32 1, Value.bool true] 141))
  have hsz2 : ((w.alloc (Obj.cells #[Value.int IntKind.i32 0, Value.int IntKind.i32 0] 136)).alloc
      (Obj.cells #[Value.int IntKind.i32 0, Value.int IntKind.i32 0, Value.int IntKind.i32 0, Value.int IntKind.i32 0, Value.bool false, Value.int IntKind.i32 0, Value.int IntKind.i32 0, Value.int IntKind.i32 0, Value.int IntKind.i32 1, Value.bool true] 141)).heap.size = n0 + 2 := by simp [HN0.out]
  rw [hsz2] at hmade
  have hmade6 : TlMap W6 (n0 + 2) 0 (.map []) := hmade.kept (grown_none (zb3.mono (by simp [HN0.out]))) (by simp)
  have hbld : Bld W6 (n0 + 3) (n0 + 2) n0 0 (.map []) ([] ++ [(0, 0)]) fz0 (.slice (some ⟨n0, 0, none⟩) 1 1) (.slice (some ⟨n0 + 1, 0, none⟩) 2 2) :=
    ⟨by omega, by omega, z3, ⟨rfl, .inr ⟨n0, 1, _, rfl, Nat.le_refl _, z0, Nat.le_refl _, by decide, rfl, rfl⟩⟩, ⟨rfl, .inr ⟨n0 + 1, 2, _, rfl, by omega, z1, Nat.le_refl _, by decide, rfl, rfl⟩⟩, hmade6⟩
  have hI0 : BdI w W6 (n0 + 3) (n0 + 2) n0 (N + 1) (n0 + 4) (n0 + 5) (.slice A N c) RW 0 :=
    ⟨⟨fz0, [[], [[]]], [], 0, ⟨0, .map [], 0, _, _, hbld, ViewT.none_, Nat.zero_le _, fz0_frI (N + 1) (by omega)⟩, fun a u h => absurd h List.not_mem_nil, fun l hl => by
      have hne := (HFA.out l (List.mem_of_getElem? hl)).1
      cases l with
      | nil => exact absurd rfl hne
      | cons a t => exact List.nil_lt_cons a t⟩, z4, z5, zb, by omega⟩
  rw [hW6]
  have HS6 := Lib.hid (HSQ.out W6 (by omega) zb (by omega) (cell_of_row _ _ _ _ _ (0, 0) z5))
  have HZ6 := Lib.hid z6
  clear hbld hmade6 hmade hsz2 z0 z1 z2 z3 z4 z5 zb zb3 hW6 hmm HSQ z6
  refine wp_range_seqV (by decide) (gf := 97) (lb := #[.pointer (some ⟨n0 + 1 + 1 + 1 + 1 + 1, 0, none⟩)]) rfl (enters_of Tryd.func97 (by kernel_rfl) rfl)
    HS6.out (fun i x W W2 h hk => h.keeps hk) Keep1.trans (keep1_b (by have := HZ6.out; omega) (by have := HZ6.out; omega)) (Below.refl _ _) rfl
    (fun i W => BdI w W (n0 + 3) (n0 + 2) n0 (N + 1) (n0 + 4) (n0 + 5) (.slice A N c) RW i) (BdI.own w (n0 + 3) (n0 + 2) n0 (N + 1) (n0 + 4) (n0 + 5) _ _ RW (by have := HZ6.out; omega)) hI0
    (fun x => { tmps := #[.slice A N c, undef, .pointer none, .pointer (some ⟨n0 + 1 + 1 + 1 + 1, 0, none⟩), x, .agg #[.int .i32 0, .int .i32 0], .slice (some ⟨n0, 0, none⟩) 1 1, .agg #[.int .i32 0, .int .i32 0, .int .i32 0, .int .i32 0, .bool false], .agg #[.int .i32 0, .int .i32 0, .int .i32 0, .int .i32 1, .bool true], .slice (some ⟨n0 + 1, 0, none⟩) 2 2, .map (some (n0 + 1 + 1)), .agg #[.slice (some ⟨n0, 0, none⟩) 1 1, .slice (some ⟨n0 + 1, 0, none⟩) 2 2, .map (some (n0 + 1 + 1))], .pointer (some ⟨n0 + 1 + 1 + 1, 0, none⟩), .slice A N c, .func (.func 97) #[] #[.pointer (some ⟨n0 + 1 + 1 + 1 + 1 + 1, 0, none⟩)], x, undef, undef, undef, undef, undef, undef, undef, undef, undef, undef, undef, undef, undef, undef], defers := [] }) ?assign ?body ?done
  case assign =>
    intro l x W K hK
    gi_wp2
    exact hK
  case body =>
    intro l pre x W hsW hI hlt2 hpv
    obtain ⟨nv, ru, hru, hnv, hov⟩ := hpv
    obtain ⟨F, R, P, s, hst, hz0, hnx⟩ := hI.st
    obtain ⟨f1, f2, f3⟩ := HFA.out ru (List.mem_of_getElem? hru)
    have htk := ltrs_take_succ hru
    have htl := ltrs_take_le RW (pre + 1)
    have htw : RW.take (pre + 1) = RW.take pre ++ [ru] := by rw [List.take_add_one, hru]; rfl
    have hWl : (RW.take pre).length + 1 ≤ N + 1 := by rw [List.length_take]; omega
    have ca := add_any (n0 + 3) (n0 + 2) n0 (N + 1) _ F R P s _ W hst (by omega) hz0 x ru nv hov (by have := HZ6.out; omega) (by omega) (by omega) f3 (hnx ru hru) hWl
    have CA := Lib.hid ca
    have hbb := hI.bb.cell
    have HI := Lib.hid hI
    have HRU := Lib.hid hru
    have HTK := Lib.hid htk; have HTW := Lib.hid htw
    clear ca hst hz0 hnx hov hI htk htl htw hWl f1 f2 f3 hru
    gi_wp2_with (fail)
    refine ⟨trivial, ?_⟩
    refine (CallsIn.inRound l (callsIn_wide.2 CA.out)).mono ?_
    rintro e W2 ⟨⟨v2, rfl⟩, ⟨F', R', P', hst2, hP2⟩, hfr⟩
    have hkF : KeepsFrom W6.heap.size W W2 := ⟨hfr.bel.size, fun k o hk hh hc => hfr.keep k o (by have := HZ6.out; omega) hh (by have := HZ6.out; omega) (by have := HZ6.out; omega) (fun cs t fz e => by subst e; cases hc)⟩
    have hkB := hfr.keep (n0 + 5) _ (by omega) HI.out.bl (by omega) (by omega) (fun cs t fz e => by
      simp only [Obj.cells.injEq] at e
      obtain ⟨_, e, _⟩ := e
      rw [← e]
      exact ⟨by decide, by decide⟩)
    have hkC := hfr.keep (n0 + 4) _ (by omega) HI.out.bb (by omega) (by omega) (fun cs t fz e => by
      simp only [Obj.cells.injEq] at e
      obtain ⟨_, e, _⟩ := e
      rw [← e]
      exact ⟨by decide, by decide⟩)
    have hk1 : Keep1 n0 (n0 + 5) W W2 := ⟨hfr.bel, hkB.trans (Eq.symm HI.out.bl)⟩
    have hnext : BdI w W2 (n0 + 3) (n0 + 2) n0 (N + 1) (n0 + 4) (n0 + 5) (.slice A N c) RW (pre + 1) := by
      refine ⟨⟨F', R', P', 1, ?_, ?_, fun l' hl' => ?_⟩, hkC, hkB, HI.out.bel.trans hfr.bel, HI.out.le⟩
      · rw [HTW.out, ← HTW.out, HTK.out, HTW.out, ← Nat.add_assoc]
        exact hst2
      · obtain ⟨k, D, x', vw, vf, _, _, _, hf⟩ := hst2
        intro a u h
        rw [hf.fz.r1] at h
        simp at h
      · rw [hP2]
        obtain ⟨i1, e1⟩ := List.getElem?_eq_some_iff.1 HRU.out
        obtain ⟨i2, e2⟩ := List.getElem?_eq_some_iff.1 hl'
        rw [← e1, ← e2]
        exact List.pairwise_iff_getElem.1 HRI.out pre (pre + 1) i1 i2 (by omega)
    have HFIN := Lib.hid hkF; have HF1 := Lib.hid hk1; have HF2 := Lib.hid hnext
    clear hkF hkB hkC hk1 hnext hst2 hfr CA HI
    gi_wp2
    exact ⟨HFIN.out, HF1.out, HF2.out⟩
  case done =>
    intro D W hD hI hK
    obtain ⟨F, R, P, s, hst, hz0, _⟩ := hI.st
    have hRt : RW.take N = RW := List.take_of_length_le (by rw [HRN.out]; exact Nat.le_refl _)
    rw [hRt] at hst
    have cf : Calls Tryd.prog 72 #[.pointer (some ⟨n0 + 3, 0, none⟩), .int .i64 0] W _ := freeze_any (n0 + 3) (n0 + 2) n0 (N + 1) _ F R P s RW W hst (by omega) (by omega) hz0 0 (Nat.zero_le _)
    have CF := Lib.hid cf
    have hbb := hI.bb.cell
    have HI := Lib.hid hI; have HKD := Lib.hid hK
    clear cf hst hz0 hRt hI hK HS6
    gi_wp2_with (fail)
    refine ⟨trivial, ?_⟩
    gi_at_call 72
    refine (callsIn_wide.2 CF.out).mono ?_
    rintro e W2 ⟨⟨v2, rfl⟩, ⟨F', R', s', ⟨k, D', x', vw, vf, hbl, _, _, hfi⟩, _⟩, hfr⟩
    rw [List.take_zero] at hbl hfi
    obtain ⟨g, cap, evw, hway, hgl⟩ := own_lenW hbl (n := 0) rfl
    subst evw
    have ge := z_own_at op_ln hway (j := 0) (i := 0) (x := (s', x')) (u := .int .i32 (s' : Int)) rfl rfl
    simp only [Nat.zero_mul, Nat.add_zero] at ge
    have hop : rq R' s' = RW := hfi.opn
    have hkC := hfr.keep (n0 + 4) _ (by omega) HI.out.bb (by omega) (by omega) (fun cs t fz e => by
      simp only [Obj.cells.injEq] at e
      obtain ⟨_, e, _⟩ := e
      rw [← e]
      exact ⟨by decide, by decide⟩)
    have c0 := Boxed.cell hkC
    have c1 := hbl.cells.1
    have hDm : W2.heap[D]? = some (.deferred (some [])) := hfr.keep D _ (by have := HZ6.out; omega) HKD.out (by have := HZ6.out; omega) (by have := HZ6.out; omega) (fun cs t fz e => by cases e)
    have hDl := (Array.getElem?_eq_some_iff.1 hDm).1
    have hbw2 : Below n0 w W2 := HI.out.bel.trans hfr.bel
    have hlen := hfi.lens
    have cl := laid_any (n0 + 3) F'.length (N + 1) s' W2.heap.size F' R' W2.drew ((FrzAt.of_bld hbl (by have := hfi.fz.two; omega)).below (Below.refl _ _).drew) hfi.fz (by omega) (by simp at hlen; omega) hfi.way.sl rfl (by rw [hop]; exact HRI.out) (by rw [hop]; omega)
    rw [hop] at cl
    have eg : ∀ args w, (callFunc 73 args).run Tryd.prog w = .ok (.enter 73 args) w := enters_of Tryd.func73 (by kernel_rfl) rfl
    have CL := Lib.hid cl; have HB2 := Lib.hid hbw2; have HDM := Lib.hid hDm; have HDL := Lib.hid hDl; have HEG := Lib.hid eg
    have hn2 : n0 ≤ W2.heap.size := hbl.lt.2.2
    have hnD : n0 ≤ D := by have := HZ6.out; omega
    clear cl hbw2 hDm hDl eg hlen hfi hkC hbl hway hop hfr CF HI HKD hgl hbb
    gi_wp2
    refine wpIn_wide.2 (z_normal ?_)
    refine wp_region_held_drew (S := fun wx => wx.cell? ⟨n0 + 1 + 1 + 1 + 1, 0, none⟩ = some (.pointer (some ⟨n0 + 3, 0, none⟩)) ∧ wx.cell? ⟨n0 + 3, 0, none⟩ = some (.slice (some ⟨g, 0, none⟩) (0 + 1) cap) ∧ wx.cell? ⟨g, 0, none⟩ = some (.int .i32 (s' : Int))) (by kernel_rfl) ⟨c0, c1, ge⟩ (fun hS => ?_)
    change wpAnyH _ _ _ _ _ 10 _ _ _
    refine wpAnyH_take (i := 0) (v := .pointer (some ⟨n0 + 3, 0, none⟩)) rfl (by kernel_rfl) (by kernel_rfl) (by kernel_rfl) (fun _ _ _ h => h) (Or.inl ⟨by rfl, fun wy hy => by obtain ⟨y0, y1, y2⟩ := hy; go_simp⟩) hS ?_
    refine wpAnyH_take (i := 1) (v := .pointer (some ⟨n0 + 3, 0, none⟩)) rfl (by kernel_rfl) (by kernel_rfl) (by kernel_rfl) (fun _ _ _ h => h) (Or.inl ⟨by rfl, fun wy hy => by obtain ⟨y0, y1, y2⟩ := hy; go_simp⟩) hS ?_
    refine wpAnyH_take (i := 2) (v := .pointer (some ⟨n0 + 3, 0, none⟩)) rfl (by kernel_rfl) (by kernel_rfl) (by kernel_rfl) (fun _ _ _ h => h) (Or.inl ⟨by rfl, fun wy hy => by obtain ⟨y0, y1, y2⟩ := hy; go_simp⟩) hS ?_
    refine wpAnyH_take (i := 3) (v := .pointer (some ⟨n0 + 3, 0, none⟩)) rfl (by kernel_rfl) (by kernel_rfl) (by kernel_rfl) (fun _ _ _ h => h) (Or.inl ⟨by rfl, fun wy hy => by obtain ⟨y0, y1, y2⟩ := hy; go_simp⟩) hS ?_
    refine wpAnyH_take (i := 4) (v := .slice (some ⟨g, 0, none⟩) (0 + 1) cap) rfl (by kernel_rfl) (by kernel_rfl) (by kernel_rfl) (fun _ _ _ h => h) (Or.inl ⟨by rfl, fun wy hy => by obtain ⟨y0, y1, y2⟩ := hy; go_simp⟩) hS ?_
    refine wpAnyH_take (i := 5) (v := .pointer (some ⟨g, 0, none⟩)) rfl (by kernel_rfl) (by kernel_rfl) (by kernel_rfl) (fun _ _ _ h => h) (Or.inl ⟨by rfl, fun wy hy => by obtain ⟨y0, y1, y2⟩ := hy; go_simp⟩) hS ?_
    refine wpAnyH_take (i := 6) (v := .pointer (some ⟨g, 0, none⟩)) rfl (by kernel_rfl) (by kernel_rfl) (by kernel_rfl) (fun _ _ _ h => h) (Or.inl ⟨by rfl, fun wy hy => by obtain ⟨y0, y1, y2⟩ := hy; go_simp⟩) hS ?_
    refine wpAnyH_take (i := 7) (v := .int .i32 (s' : Int)) rfl (by kernel_rfl) (by kernel_rfl) (by kernel_rfl) (fun _ _ _ h => h) (Or.inl ⟨by rfl, fun wy hy => by obtain ⟨y0, y1, y2⟩ := hy; go_simp⟩) hS ?_
    refine wpAnyH_ready (rs := [8]) (by kernel_rfl) (by simp) ?_
    refine AllReadyH.cons rfl (fun K hK => ?_) AllReadyH.nil
    refine xstep_call2 rfl 73 (.tmp 21) (.tmp 28) 134 21 rfl HEG.out (by go_simp) (by go_simp) CL.out ?_
    rintro e W3 ⟨d, vs, ve, rfl, hld⟩
    refine ⟨_, rfl, ?_⟩
    have b3 : Below W2.heap.size W2.drew W3 := hld.bel
    refine hK.out _ _ ⟨cell_keep b3 hS.1, cell_keep b3 hS.2.1, cell_keep b3 hS.2.2⟩ (fun hS => ?_)
    refine wpAnyH_take (i := 9) (v := .pointer (some ⟨d, 0, none⟩)) rfl (by kernel_rfl) (by kernel_rfl) (by kernel_rfl) (fun _ _ _ h => h) (Or.inl ⟨by rfl, fun wy hy => by obtain ⟨y0, y1, y2⟩ := hy; go_simp⟩) hS ?_
    refine wpAnyH_done (by kernel_rfl) ?_ _
    simp only [ZIn]
    have HLD := Lib.hid hld
    have hmk : ZMarks n0 W3 [D] := ⟨List.nodup_cons.2 ⟨List.not_mem_nil, List.nodup_nil⟩, fun D' hD' => by
      obtain rfl := List.mem_singleton.1 hD'
      exact ⟨hnD, (b3.block D' HDL.out).trans HDM.out⟩⟩
    have HMK := Lib.hid hmk
    have HB3 : Hid (Below n0 w W3) := Lib.hid (HB2.out.trans (((Below.refl _ _).drew.trans b3).mono hn2))
    have hn3 : n0 ≤ W3.heap.size := Nat.le_trans hn2 b3.size
    have hdn : n0 ≤ d := Nat.le_trans hn2 hld.d0
    clear hld b3 hmk hS CL
    simp only [Act.put, List.getElem_toArray, List.getElem_cons_zero, List.getElem_cons_succ, List.setIfInBounds_toArray, List.set_cons_succ, List.set_cons_zero]
    gi_wp2
    refine z_leaves_marks [D] W3 hn3 HMK.out (fun w' hb' hk' => ?_)
    refine ⟨_, results_tmp rfl _ _ _, ?_⟩
    refine ⟨d, vs, ve, rfl, ?_⟩
    rw [HN0.out]
    exact ⟨hk' d _ HLD.out.box rfl, z_own_cells (z_own_base HLD.out.st hn2) hk', z_own_cells (z_own_base HLD.out.ed hn2) hk', HB3.out.trans hb', hdn⟩
end Go.Proofs.YtljaibhhkjapmaaDoor

/- errataref09.Check, all, Is, Find, Same: what each answers. -/
namespace Go.Proofs.YtljaibhhkjapmaaDoor
open Go.RowKit Go.Shelf
set_option linter.unusedSimpArgs false
set_option linter.unusedVariables false

theorem wchk_size (x : Wrd) (h : x.1.size ≤ 2000000) : x.1.size * 4 ≤ 140737488355328 := by omega
set_option maxRecDepth 100000 in
set_option maxHeartbeats 4000000 in
theorem refCheck9_any (a : ByteArray) (N : Int) (w : World) (ha : a.size ≤ 2000000) :
    Calls Tryd.prog 103 #[.agg #[.string a, .int .i64 N]] w fun e w' => e = .returned (.int .i64 (wchk (a, N))) ∧ Below w.heap.size w w' := by
  have c5 := fun w => refToken_any a w (by omega)
  have hR : wchk (a, N) = if tokErr a.data.toList = 0 then (if N < 1 ∨ 1073741824 < N then 2 else 0) else tokErr a.data.toList := rfl
  obtain ⟨res, hres⟩ : ∃ r, wchk (a, N) = r := ⟨_, rfl⟩
  obtain ⟨er, her⟩ : ∃ r, tokErr a.data.toList = r := ⟨_, rfl⟩
  obtain ⟨nr, hnr⟩ : ∃ r, (tokRunes a.data.toList).length = r := ⟨_, rfl⟩
  rw [hres] at hR ⊢
  rw [her] at hR
  simp only [her, hnr] at c5
  obtain ⟨a0, a1⟩ := cells2_new w (.string a) (.int .i64 N) 72
  have hal := bel_one w (.cells #[.string a, .int .i64 N] 72)
  have hlt : w.heap.size < (w.alloc (.cells #[.string a, .int .i64 N] 72)).heap.size := by simp
  obtain ⟨W1, hW1⟩ : ∃ z, w.alloc (.cells #[.string a, .int .i64 N] 72) = z := ⟨_, rfl⟩
  rw [hW1] at a0 a1 hal hlt
  obtain ⟨bx, hbx⟩ : ∃ z, w.heap.size = z := ⟨_, rfl⟩
  rw [hbx] at a0 a1 hlt
  have HW1 := Lib.hid hW1; have HBX := Lib.hid hbx; have HAL := Lib.hid hal; have C5 := Lib.hid c5; have HR := Lib.hid hR
  clear hW1 hbx hal c5 hR hres her hnr
  go_enter Tryd.func103, Tryd.ntmps103
  go_wp2_with fail
  rw [HW1.out, HBX.out]
  refine (C5.out _).mono ?_
  rintro e w2 ⟨A, c, rfl, _, b2⟩
  have d2 := (b2.cell (p := ⟨bx, 1, none⟩) hlt).trans a1
  have B2 : Hid (Below w.heap.size w w2) := Lib.hid (HAL.out.trans (b2.mono HAL.out.size))
  clear b2 a0 a1
  by_cases h0 : er = 0
  · subst h0
    by_cases h1 : N < 1
    · have hr : Hid (res = 2) := Lib.hid (by rw [HR.out, if_pos (by first | rfl | trivial), if_pos (.inl h1)])
      go_wp2
      go_ret
      exact ⟨by rw [hr.out]; rfl, B2.out⟩
    · by_cases h2 : 1073741824 < N
      · have hr : Hid (res = 2) := Lib.hid (by rw [HR.out, if_pos (by first | rfl | trivial), if_pos (.inr h2)])
        go_wp2
        go_ret
        exact ⟨by rw [hr.out]; rfl, B2.out⟩
      · have hr : Hid (res = 0) := Lib.hid (by rw [HR.out, if_pos (by first | rfl | trivial), if_neg (by omega)])
        go_wp2
        go_ret
        exact ⟨by rw [hr.out]; rfl, B2.out⟩
  · have h0' : (er == 0) = false := by simpa using h0
    have hr : Hid (res = er) := Lib.hid (by rw [HR.out, if_neg h0])
    go_wp2
    go_ret
    exact ⟨by rw [hr.out]; rfl, B2.out⟩
set_option maxRecDepth 100000 in
set_option maxHeartbeats 8000000 in
theorem refAll9_any (u : Value) (l : List Wrd) (w : World) (hu : WRuns w u l) (hl : l.length ≤ 2000000) (hz : szW l) :
    Calls Tryd.prog 74 #[u] w fun e w' => e = .returned (.int .i64 (wall l)) ∧ Below w.heap.size w w' := by
  obtain ⟨A, c, e⟩ := hu.slice
  subst e
  have HU := Lib.hid hu; clear hu
  obtain ⟨n, hn⟩ : ∃ n, l.length = n := ⟨_, rfl⟩
  obtain ⟨res, hres⟩ : ∃ r, wall l = r := ⟨_, rfl⟩
  rw [hres]
  have HT := Lib.hid hres; clear hres
  rw [hn] at hl HU ⊢
  have HN := Lib.hid hn; clear hn
  have HZ := Lib.hid hz; clear hz
  have C5 := Lib.hid refCheck9_any
  go_enter Tryd.func74, Tryd.ntmps74
  go_wp2
  go_loopw [8] (fun s8 wr => ∃ k : Nat, k ≤ n ∧ s8 = .int .i64 k ∧ Hid (wall (l.take k) = 0) ∧ Hid (Below w.heap.size w wr)) (fun s8 _ => n - (RowKit.intOf s8).toNat)
  case atStart => exact ⟨0, Nat.zero_le _, rfl, Lib.hid rfl, Lib.hid (Below.refl _ _)⟩
  case round =>
    obtain ⟨k, hkn, rfl, HC, BW⟩ := hrel
    by_cases hk : k < n
    · have k1 : (k : Int) < (n : Int) := by omega
      obtain ⟨⟨p1, p2⟩, hp⟩ : ∃ p, l[k]? = some p := ⟨_, List.getElem?_eq_getElem (by rw [HN.out]; exact hk)⟩
      obtain ⟨b, o, rfl, _, hc⟩ := (HU.out.below BW.out).cells HN.out (by omega)
      obtain ⟨g0, g1⟩ := wrd_cells hc hp
      simp only at g0 g1
      have hz1 := HZ.out _ (List.mem_of_getElem? hp)
      have hch := wall_take k _ hp HC.out
      simp only at hz1
      obtain ⟨er, her⟩ : ∃ z, wchk (p1, p2) = z := ⟨_, rfl⟩
      rw [her] at hch
      have HCH := Lib.hid hch
      have hal : Hid (Below w.heap.size w (wr.alloc (.cells #[.string p1, .int .i64 p2] 72))) := Lib.hid (BW.out.alloc BW.out.size _)
      have c5 := C5.out p1 p2 (wr.alloc (.cells #[.string p1, .int .i64 p2] 72)) hz1
      rw [her] at c5
      have CC := Lib.hid c5
      clear hc hp hch c5 her
      go_wp2_with fail
      refine CC.out.mono ?_
      rintro e w5 ⟨rfl, b5⟩
      have B5 : Hid (Below w.heap.size w w5) := Lib.hid (hal.out.trans (b5.mono hal.out.size))
      clear b5
      by_cases h0 : er = 0
      · subst h0
        go_wp2
        exact ⟨⟨k + 1, by omega, by go_num, Lib.hid (HCH.out.1 (by first | rfl | trivial)), B5⟩, by simp [RowKit.intOf]; omega⟩
      · have h0' : (er == 0) = false := by simpa using h0
        have hr : Hid (res = er) := Lib.hid (by rw [← HT.out]; exact HCH.out.2 h0)
        go_wp2
        go_ret
        exact ⟨by rw [hr.out]; rfl, B5.out⟩
    · obtain rfl : k = n := by omega
      have hr : Hid (res = 0) := Lib.hid (by have := HC.out; rw [← HN.out, List.take_length] at this; rw [← HT.out]; exact this)
      clear HC
      go_wp2
      go_ret
      exact ⟨by rw [hr.out]; rfl, BW.out⟩
set_option maxRecDepth 100000 in
set_option maxHeartbeats 8000000 in
theorem refIs9_any (u : Value) (l : List Wrd) (w : World) (hu : WRuns w u l) (hl : l.length ≤ 2000000) (hz : szW l) :
    Calls Tryd.prog 45 #[u] w fun e w' => e = .returned (.int .i64 (wisS l)) ∧ Below w.heap.size w w' := by
  have ca := refAll9_any u l w hu hl hz
  obtain ⟨A, c, e⟩ := hu.slice
  subst e
  have HU := Lib.hid hu; clear hu
  obtain ⟨n, hn⟩ : ∃ n, l.length = n := ⟨_, rfl⟩
  have hT : wisS l = if wall l = 0 then (if ordW l then (if 65536 < n then 6 else 0) else 7) else wall l := by rw [wisS, hn]
  obtain ⟨res, hres⟩ : ∃ r, wisS l = r := ⟨_, rfl⟩
  rw [hres] at hT ⊢
  have HT := Lib.hid hT; clear hT hres
  rw [hn] at hl HU ca ⊢
  have HN := Lib.hid hn; clear hn hz
  obtain ⟨ra, hra⟩ : ∃ z, wall l = z := ⟨_, rfl⟩
  rw [hra] at ca
  have HRA := Lib.hid hra; have CA := Lib.hid ca
  clear hra ca
  go_enter Tryd.func45, Tryd.ntmps45
  go_wp2_with fail
  refine CA.out.mono ?_
  rintro e w1 ⟨rfl, b1⟩
  have BW := Lib.hid b1; clear b1
  by_cases h00 : ra = 0
  · subst h00
    have HC0 : Hid (wall l = 0) := Lib.hid HRA.out
    go_wp2
    go_loopw [12] (fun s18 wr' => ∃ j : Nat, j ≤ n ∧ s18 = .int .i64 j ∧ Hid (ordW (l.take j) = true) ∧ Hid (Below w.heap.size w wr')) (fun s18 _ => n - (RowKit.intOf s18).toNat)
    case atStart => exact ⟨0, Nat.zero_le _, rfl, Lib.hid rfl, BW⟩
    case round =>
      obtain ⟨j, hjk, rfl, HO, BW2⟩ := hrel
      by_cases hj : j < n
      · have j1 : (j : Int) < (n : Int) := by omega
        rcases Nat.eq_zero_or_pos j with h0 | h0
        · subst h0
          go_wp2
          go_quiet (fail)
          go_wp2
          exact ⟨⟨1, by omega, by go_num, Lib.hid (ordW_one l), Lib.hid (below_draws BW2.out _)⟩, by simp [RowKit.intOf]; omega⟩
        · obtain ⟨i, hi⟩ : ∃ i : Nat, (j : Int) - 1 = (i : Int) := ⟨j - 1, by omega⟩
          have ei : j = i + 1 := by omega
          have EI := Lib.hid ei
          obtain ⟨⟨y1, y2⟩, hy⟩ : ∃ p, l[i]? = some p := ⟨_, List.getElem?_eq_getElem (by rw [HN.out]; omega)⟩
          obtain ⟨⟨x1, x2⟩, hx⟩ : ∃ p, l[j]? = some p := ⟨_, List.getElem?_eq_getElem (by rw [HN.out]; omega)⟩
          have RW := Lib.hid (HU.out.below BW2.out)
          obtain ⟨b, o, rfl, hblt, hc⟩ := RW.out.cells HN.out (by omega)
          obtain ⟨g0, g1⟩ := wrd_cells hc hy
          obtain ⟨g3, g4⟩ := wrd_cells hc hx
          simp only at g0 g1 g3 g4
          have hor := ordW_take i (y1, y2) (x1, x2) hy (by rw [← ei]; exact hx) (by rw [← ei]; exact HO.out)
          obtain ⟨le, hle⟩ : ∃ z, ltK y1 x1 = z := ⟨_, rfl⟩
          simp only [hle] at hor
          unfold ltK at hle
          have HOR := Lib.hid hor
          clear hc hy hx hor ei HO
          have i0 : (0 : Int) < (j : Int) := by omega
          have i1 : (i : Int) < (n : Int) := by omega
          have hwr : IntKind.i64.wrap ((j : Int) - 1) = (i : Int) := by rw [IntKind.wrap_i64]; omega
          have hwi : IntKind.i64.wrap (i : Int) = (i : Int) := by rw [IntKind.wrap_i64]; omega
          have i2 : (0 : Int) ≤ (i : Int) := by omega
          cases le
          · have hr : Hid (res = 7) := Lib.hid (by rw [HT.out, if_pos HC0.out, if_neg (by rw [HOR.out.2 rfl]; simp)])
            go_wp2
            go_quiet (fail)
            go_wp2
            go_ret
            exact ⟨by rw [hr.out]; rfl, below_draws BW2.out _⟩
          · go_wp2
            go_quiet (fail)
            go_wp2
            exact ⟨⟨j + 1, by omega, by go_num, Lib.hid (by have := HOR.out.1 (by first | rfl | trivial); rwa [← EI.out] at this), Lib.hid (below_draws BW2.out _)⟩, by simp [RowKit.intOf]; omega⟩
      · obtain rfl : j = n := by omega
        have HO0 : Hid (ordW l = true) := Lib.hid (by have := HO.out; rwa [← HN.out, List.take_length] at this)
        clear HO BW
        by_cases hbig : 65536 < j
        · have hb1 : (65536 : Int) < (j : Int) := by omega
          have hr : Hid (res = 6) := Lib.hid (by rw [HT.out, if_pos HC0.out, if_pos HO0.out, if_pos hbig])
          go_wp2
          go_ret
          exact ⟨by rw [hr.out]; rfl, BW2.out⟩
        · have hb1 : ¬ (65536 : Int) < (j : Int) := by omega
          have hr : Hid (res = 0) := Lib.hid (by rw [HT.out, if_pos HC0.out, if_pos HO0.out, if_neg hbig])
          go_wp2
          go_ret
          exact ⟨by rw [hr.out]; rfl, BW2.out⟩
  · have h00' : (ra == 0) = false := by simpa using h00
    have hr : Hid (res = ra) := Lib.hid (by rw [HT.out, HRA.out, if_neg h00])
    go_wp2
    go_ret
    exact ⟨by rw [hr.out]; rfl, BW.out⟩
theorem wtake_all {α : Type} (x y : List α) (h : x.length = y.length) (ht : x.take x.length = y.take x.length) : x = y := by
  rw [List.take_length, h, List.take_length] at ht; exact ht
set_option maxRecDepth 100000 in
set_option maxHeartbeats 4000000 in
theorem refSame9_any (u v : Value) (x y : List Wrd) (w : World) (hx : WRuns w u x) (hy : WRuns w v y) :
    Calls Tryd.prog 37 #[u, v] w fun e w' => e = .returned (.bool (decide (x = y))) ∧ Drawn w w' := by
  obtain ⟨A, c, rfl, hxc, ⟨hxm, _⟩, hxx⟩ := hx
  obtain ⟨B, d, rfl, hyc, ⟨hym, _⟩, hyy⟩ := hy
  unfold maxLen at hxm hym
  obtain ⟨n, hn⟩ : ∃ n, x.length = n := ⟨_, rfl⟩
  obtain ⟨m, hm⟩ : ∃ m, y.length = m := ⟨_, rfl⟩
  obtain ⟨res, hr⟩ : ∃ r, decide (x = y) = r := ⟨_, rfl⟩
  rw [hr]
  rw [hn] at hxc hxx ⊢
  rw [hm] at hyc hyy ⊢
  have Hn := Lib.hid hn; have Hm := Lib.hid hm; have HR := Lib.hid hr
  have HX := Lib.hid hxx; have HY := Lib.hid hyy
  clear hn hm hr hxx hyy
  by_cases hnm : n = m
  · subst hnm
    go_enter Tryd.func37, Tryd.ntmps37
    go_wp2
    go_loopg [13] n (fun g s13 wr => ∃ k q : Nat, k ≤ n ∧ n - k ≤ g ∧ s13 = .int .i64 k ∧ wr = w.drewN q ∧ Hid (x.take k = y.take k))
    case atStart => exact ⟨0, 0, Nat.zero_le _, by omega, rfl, rfl, Lib.hid (by simp)⟩
    case round =>
      obtain ⟨k, q, hkn, hg, rfl, rfl, HC⟩ := hrel
      by_cases h1 : k < n
      · obtain ⟨b, o, rfl, hb, hc1⟩ := HX.out (by omega)
        obtain ⟨b', o', rfl, hb', hc2⟩ := HY.out (by omega)
        obtain ⟨⟨p1, p2⟩, hp⟩ : ∃ p, x[k]? = some p := ⟨_, List.getElem?_eq_getElem (by rw [Hn.out]; exact h1)⟩
        obtain ⟨⟨q1, q2⟩, hq⟩ : ∃ p, y[k]? = some p := ⟨_, List.getElem?_eq_getElem (by rw [Hm.out]; exact h1)⟩
        obtain ⟨e1, e2⟩ := wrd_cells hc1 hp
        obtain ⟨f1, f2⟩ := wrd_cells hc2 hq
        simp only at e1 e2 f1 f2
        clear hc1 hc2
        have NE : Hid ((p1, p2) ≠ (q1, q2) → x ≠ y) := Lib.hid (fun hne e => hne (by rw [e, hq] at hp; exact (Option.some.inj hp).symm))
        have ST : Hid ((p1, p2) = (q1, q2) → x.take (k + 1) = y.take (k + 1)) := Lib.hid (fun he => by rw [List.take_add_one, List.take_add_one, HC.out, hp, hq, he])
        clear hp hq
        have i1 : (k : Int) < (n : Int) := by omega
        have hcs : (p1 = q1 ∧ p2 = q2) ∨ (p1.toList == q1.toList) = false ∨ ((p1.toList == q1.toList) = true ∧ (p2 == q2) = false) := by
          by_cases h1 : p1.toList = q1.toList
          · by_cases h2 : p2 = q2
            · exact .inl ⟨key_ext (by rw [← Lib.toList_data, ← Lib.toList_data]; exact h1), h2⟩
            · exact .inr (.inr ⟨by simpa using h1, by simpa using h2⟩)
          · exact .inr (.inl (by simpa using h1))
        rcases hcs with ⟨rfl, rfl⟩ | h1 | ⟨h1, h2⟩
        · go_wp2
          go_quiet (fail)
          go_wp2
          go_roundg (n - (k + 1))
          case measure => omega
          case rel => exact ⟨k + 1, _, by omega, by omega, by go_num, by first | rfl | rw [World.drewN_drewN], Lib.hid (ST.out (by first | rfl | trivial))⟩
        all_goals
          have hno : x ≠ y := NE.out (by
            intro e
            simp only [Prod.mk.injEq] at e
            obtain ⟨rfl, rfl⟩ := e
            simp at *)
          have HNO := Lib.hid hno
          clear hno
          go_wp2
          go_quiet (fail)
          go_wp2
          go_ret
          exact ⟨ret_bool (by rw [← HR.out]; symm; simpa using HNO.out), by first | exact Drawn.of2 _ _ _ | exact Drawn.of3 _ _ _ _⟩
      · obtain rfl : n = k := by omega
        go_wp2
        go_ret
        exact ⟨ret_bool (by rw [← HR.out, decide_eq_true (wtake_all x y (by rw [Hn.out, Hm.out]) (by rw [Hn.out]; exact HC.out))]), Drawn.of _ _⟩
  · have h1 : ((n : Int) == (m : Int)) = false := by simp; omega
    go_enter Tryd.func37, Tryd.ntmps37
    go_wp2
    go_ret
    exact ⟨ret_bool (by rw [← HR.out]; symm; rw [decide_eq_false_iff_not]; rintro rfl; exact hnm (Hn.out.symm.trans Hm.out)), Drawn.refl _⟩
end Go.Proofs.YtljaibhhkjapmaaDoor

/- lexicon.Check, each, Is: what each answers. -/
namespace Go.Proofs.YtljaibhhkjapmaaDoor
open Go.RowKit Go.Shelf
set_option linter.unusedSimpArgs false
set_option linter.unusedVariables false

set_option maxRecDepth 100000 in
set_option maxHeartbeats 4000000 in
theorem xcheck_any (a : ByteArray) (N : Int) (w : World) (hO : Okw w) (ha : a.size ≤ 2000000) :
    Calls Tryd.prog 96 #[.agg #[.string a, .int .i64 N]] w fun e w' => e = .returned (.int .i64 (wchk (a, N))) ∧ Below w.heap.size w w' := by
  have c5 := fun (w : World) (hO : Okw w) => token_any a w (by omega) hO.1 hO.2
  have hR : wchk (a, N) = if tokErr a.data.toList = 0 then (if N < 1 ∨ 1073741824 < N then 2 else 0) else tokErr a.data.toList := rfl
  obtain ⟨res, hres⟩ : ∃ r, wchk (a, N) = r := ⟨_, rfl⟩
  obtain ⟨er, her⟩ : ∃ r, tokErr a.data.toList = r := ⟨_, rfl⟩
  obtain ⟨nr, hnr⟩ : ∃ r, (tokRunes a.data.toList).length = r := ⟨_, rfl⟩
  rw [hres] at hR ⊢
  rw [her] at hR
  simp only [her, hnr] at c5
  obtain ⟨a0, a1⟩ := cells2_new w (.string a) (.int .i64 N) 72
  have hal := bel_one w (.cells #[.string a, .int .i64 N] 72)
  have hlt : w.heap.size < (w.alloc (.cells #[.string a, .int .i64 N] 72)).heap.size := by simp
  obtain ⟨W1, hW1⟩ : ∃ z, w.alloc (.cells #[.string a, .int .i64 N] 72) = z := ⟨_, rfl⟩
  rw [hW1] at a0 a1 hal hlt
  obtain ⟨bx, hbx⟩ : ∃ z, w.heap.size = z := ⟨_, rfl⟩
  rw [hbx] at a0 a1 hlt
  have HW1 := Lib.hid hW1; have HBX := Lib.hid hbx; have HAL := Lib.hid hal; have C5 := Lib.hid c5; have HR := Lib.hid hR
  have HO1 : Hid (Okw W1) := Lib.hid (hO.below hal)
  clear hW1 hbx hal c5 hR hres her hnr hO
  go_enter Tryd.func96, Tryd.ntmps96
  go_wp2_with fail
  rw [HW1.out, HBX.out]
  refine (C5.out _ HO1.out).mono ?_
  rintro e w2 ⟨A, c, rfl, _, b2⟩
  have d2 := (b2.cell (p := ⟨bx, 1, none⟩) hlt).trans a1
  have B2 : Hid (Below w.heap.size w w2) := Lib.hid (HAL.out.trans (b2.mono HAL.out.size))
  clear b2 a0 a1
  by_cases h0 : er = 0
  · subst h0
    by_cases h1 : N < 1
    · have hr : Hid (res = 2) := Lib.hid (by rw [HR.out, if_pos (by first | rfl | trivial), if_pos (.inl h1)])
      go_wp2
      go_ret
      exact ⟨by rw [hr.out]; rfl, B2.out⟩
    · by_cases h2 : 1073741824 < N
      · have hr : Hid (res = 2) := Lib.hid (by rw [HR.out, if_pos (by first | rfl | trivial), if_pos (.inr h2)])
        go_wp2
        go_ret
        exact ⟨by rw [hr.out]; rfl, B2.out⟩
      · have hr : Hid (res = 0) := Lib.hid (by rw [HR.out, if_pos (by first | rfl | trivial), if_neg (by omega)])
        go_wp2
        go_ret
        exact ⟨by rw [hr.out]; rfl, B2.out⟩
  · have h0' : (er == 0) = false := by simpa using h0
    have hr : Hid (res = er) := Lib.hid (by rw [HR.out, if_neg h0])
    go_wp2
    go_ret
    exact ⟨by rw [hr.out]; rfl, B2.out⟩
set_option maxRecDepth 100000 in
set_option maxHeartbeats 8000000 in
theorem xeach_any (u : Value) (l : List Wrd) (w : World) (hO : Okw w) (hu : WRuns w u l) (hl : l.length ≤ 2000000) (hz : szW l) :
    Calls Tryd.prog 69 #[u] w fun e w' => e = .returned (.int .i64 (wall l)) ∧ Below w.heap.size w w' := by
  obtain ⟨A, c, e⟩ := hu.slice
  subst e
  have HU := Lib.hid hu; clear hu
  have HOK := Lib.hid hO; clear hO
  obtain ⟨n, hn⟩ : ∃ n, l.length = n := ⟨_, rfl⟩
  obtain ⟨res, hres⟩ : ∃ r, wall l = r := ⟨_, rfl⟩
  rw [hres]
  have HT := Lib.hid hres; clear hres
  rw [hn] at hl HU ⊢
  have HN := Lib.hid hn; clear hn
  have HZ := Lib.hid hz; clear hz
  have C5 := Lib.hid xcheck_any
  go_enter Tryd.func69, Tryd.ntmps69
  go_wp2
  go_loopw [8] (fun s8 wr => ∃ k : Nat, k ≤ n ∧ s8 = .int .i64 k ∧ Hid (wall (l.take k) = 0) ∧ Hid (Below w.heap.size w wr)) (fun s8 _ => n - (RowKit.intOf s8).toNat)
  case atStart => exact ⟨0, Nat.zero_le _, rfl, Lib.hid rfl, Lib.hid (Below.refl _ _)⟩
  case round =>
    obtain ⟨k, hkn, rfl, HC, BW⟩ := hrel
    by_cases hk : k < n
    · have k1 : (k : Int) < (n : Int) := by omega
      obtain ⟨⟨p1, p2⟩, hp⟩ : ∃ p, l[k]? = some p := ⟨_, List.getElem?_eq_getElem (by rw [HN.out]; exact hk)⟩
      obtain ⟨b, o, rfl, _, hc⟩ := (HU.out.below BW.out).cells HN.out (by omega)
      obtain ⟨g0, g1⟩ := wrd_cells hc hp
      simp only at g0 g1
      have hz1 := HZ.out _ (List.mem_of_getElem? hp)
      have hch := wall_take k _ hp HC.out
      simp only at hz1
      obtain ⟨er, her⟩ : ∃ z, wchk (p1, p2) = z := ⟨_, rfl⟩
      rw [her] at hch
      have HCH := Lib.hid hch
      have hal : Hid (Below w.heap.size w (wr.alloc (.cells #[.string p1, .int .i64 p2] 72))) := Lib.hid (BW.out.alloc BW.out.size _)
      have c5 := C5.out p1 p2 (wr.alloc (.cells #[.string p1, .int .i64 p2] 72)) (HOK.out.below hal.out) hz1
      rw [her] at c5
      have CC := Lib.hid c5
      clear hc hp hch c5 her
      go_wp2_with fail
      refine CC.out.mono ?_
      rintro e w5 ⟨rfl, b5⟩
      have B5 : Hid (Below w.heap.size w w5) := Lib.hid (hal.out.trans (b5.mono hal.out.size))
      clear b5
      by_cases h0 : er = 0
      · subst h0
        go_wp2
        exact ⟨⟨k + 1, by omega, by go_num, Lib.hid (HCH.out.1 (by first | rfl | trivial)), B5⟩, by simp [RowKit.intOf]; omega⟩
      · have h0' : (er == 0) = false := by simpa using h0
        have hr : Hid (res = er) := Lib.hid (by rw [← HT.out]; exact HCH.out.2 h0)
        go_wp2
        go_ret
        exact ⟨by rw [hr.out]; rfl, B5.out⟩
    · obtain rfl : k = n := by omega
      have hr : Hid (res = 0) := Lib.hid (by have := HC.out; rw [← HN.out, List.take_length] at this; rw [← HT.out]; exact this)
      clear HC
      go_wp2
      go_ret
      exact ⟨by rw [hr.out]; rfl, BW.out⟩
set_option maxRecDepth 100000 in
set_option maxHeartbeats 8000000 in
theorem xis_any (u : Value) (l : List Wrd) (w : World) (hO : Okw w) (hu : WRuns w u l) (hl : l.length ≤ 2000000) (hz : szW l) :
    Calls Tryd.prog 43 #[u] w fun e w' => e = .returned (.int .i64 (wisS l)) ∧ Below w.heap.size w w' := by
  have ca := xeach_any u l w hO hu hl hz
  obtain ⟨A, c, e⟩ := hu.slice
  subst e
  have HU := Lib.hid hu; clear hu
  obtain ⟨n, hn⟩ : ∃ n, l.length = n := ⟨_, rfl⟩
  have hT : wisS l = if wall l = 0 then (if ordW l then (if 65536 < n then 6 else 0) else 7) else wall l := by rw [wisS, hn]
  obtain ⟨res, hres⟩ : ∃ r, wisS l = r := ⟨_, rfl⟩
  rw [hres] at hT ⊢
  have HT := Lib.hid hT; clear hT hres
  rw [hn] at hl HU ca ⊢
  have HN := Lib.hid hn; clear hn hz
  obtain ⟨ra, hra⟩ : ∃ z, wall l = z := ⟨_, rfl⟩
  rw [hra] at ca
  have HRA := Lib.hid hra; have CA := Lib.hid ca
  clear hra ca
  go_enter Tryd.func43, Tryd.ntmps43
  go_wp2_with fail
  refine CA.out.mono ?_
  rintro e w1 ⟨rfl, b1⟩
  have BW := Lib.hid b1; clear b1
  by_cases h00 : ra = 0
  · subst h00
    have HC0 : Hid (wall l = 0) := Lib.hid HRA.out
    go_wp2
    go_loopw [4] (fun s4 wr' => ∃ j : Nat, 1 ≤ j ∧ (j ≤ n ∨ j = 1) ∧ s4 = .int .i64 j ∧ Hid (ordW (l.take j) = true) ∧ Hid (Below w.heap.size w wr')) (fun s4 _ => n - (RowKit.intOf s4).toNat)
    case atStart => exact ⟨1, Nat.le_refl _, .inr rfl, rfl, Lib.hid (ordW_one l), BW⟩
    case round =>
      obtain ⟨j, hj1, hjk, rfl, HO, BW2⟩ := hrel
      by_cases hj : j < n
      · have j1 : (j : Int) < (n : Int) := by omega
        obtain ⟨i, hi⟩ : ∃ i : Nat, (j : Int) - 1 = (i : Int) := ⟨j - 1, by omega⟩
        have ei : j = i + 1 := by omega
        have EI := Lib.hid ei
        obtain ⟨⟨y1, y2⟩, hy⟩ : ∃ p, l[i]? = some p := ⟨_, List.getElem?_eq_getElem (by rw [HN.out]; omega)⟩
        obtain ⟨⟨x1, x2⟩, hx⟩ : ∃ p, l[j]? = some p := ⟨_, List.getElem?_eq_getElem (by rw [HN.out]; omega)⟩
        have RW := Lib.hid (HU.out.below BW2.out)
        obtain ⟨b, o, rfl, hblt, hc⟩ := RW.out.cells HN.out (by omega)
        obtain ⟨g0, g1⟩ := wrd_cells hc hy
        obtain ⟨g3, g4⟩ := wrd_cells hc hx
        simp only at g0 g1 g3 g4
        have hor := ordW_take i (y1, y2) (x1, x2) hy (by rw [← ei]; exact hx) (by rw [← ei]; exact HO.out)
        obtain ⟨le, hle⟩ : ∃ z, ltK y1 x1 = z := ⟨_, rfl⟩
        simp only [hle] at hor
        unfold ltK at hle
        have HOR := Lib.hid hor
        clear hc hy hx hor ei HO
        have i0 : (0 : Int) < (j : Int) := by omega
        have i1 : (i : Int) < (n : Int) := by omega
        have hwr : IntKind.i64.wrap ((j : Int) - 1) = (i : Int) := by rw [IntKind.wrap_i64]; omega
        have hwi : IntKind.i64.wrap (i : Int) = (i : Int) := by rw [IntKind.wrap_i64]; omega
        have i2 : (0 : Int) ≤ (i : Int) := by omega
        cases le
        · have hr : Hid (res = 7) := Lib.hid (by rw [HT.out, if_pos HC0.out, if_neg (by rw [HOR.out.2 rfl]; simp)])
          go_wp2
          go_quiet (fail)
          go_wp2
          go_ret
          exact ⟨by rw [hr.out]; rfl, below_draws BW2.out _⟩
        · go_wp2
          go_quiet (fail)
          go_wp2
          exact ⟨⟨j + 1, by omega, .inl (by omega), by go_num, Lib.hid (by have := HOR.out.1 (by first | rfl | trivial); rwa [← EI.out] at this), Lib.hid (below_draws BW2.out _)⟩, by simp [RowKit.intOf]; omega⟩
      · have j1 : ¬ (j : Int) < (n : Int) := by omega
        have HO0 : Hid (ordW l = true) := Lib.hid (by have := HO.out; rwa [List.take_of_length_le (by rw [HN.out]; omega)] at this)
        clear HO BW
        by_cases hbig : 65536 < n
        · have hb1 : (65536 : Int) < (n : Int) := by omega
          have hr : Hid (res = 6) := Lib.hid (by rw [HT.out, if_pos HC0.out, if_pos HO0.out, if_pos hbig])
          go_wp2
          go_ret
          exact ⟨by rw [hr.out]; rfl, BW2.out⟩
        · have hb1 : ¬ (65536 : Int) < (n : Int) := by omega
          have hr : Hid (res = 0) := Lib.hid (by rw [HT.out, if_pos HC0.out, if_pos HO0.out, if_neg hbig])
          go_wp2
          go_ret
          exact ⟨by rw [hr.out]; rfl, BW2.out⟩
  · have h00' : (ra == 0) = false := by simpa using h00
    have hr : Hid (res = ra) := Lib.hid (by rw [HT.out, HRA.out, if_neg h00])
    go_wp2
    go_ret
    exact ⟨by rw [hr.out]; rfl, BW.out⟩
end Go.Proofs.YtljaibhhkjapmaaDoor

