/- Texts that several proofs of this seat share, one behind the other: ZBuild ZNew KSpell. -/
import Derived.Test.YtnjhbblhlgpgdaaDoorPk15
import Derived.Test.YtnjhbblhlgpgdaaDoorPk16
import Derived.Test.YtnjhbblhlgpgdaaDoorPk11
import Derived.Test.YtnjhbblhlgpgdaaDoorPk12
import Derived.Deep.RegionHeld3
import Derived.Test.YtnjhbblhlgpgdaaDoorPk6
import Derived.Test.YtnjhbblhlgpgdaaDoorPk8
/- dawg.build: the automaton of normal words is laid. -/
namespace Go.Proofs.YtnjhbblhlgpgdaaDoor
open Go.RowKit Go.Shelf Go.Lib
attribute [local go_sem] Oper.semAt_some
set_option linter.unusedSimpArgs false
set_option linter.unusedVariables false

theorem rnW_facts {L : List Wrd} (h : wisS L = 0) : ∀ l ∈ rnW L, l ≠ [] ∧ l.length ≤ 64 ∧ ∀ r ∈ l, R32 r := by
  obtain ⟨h1, _, _⟩ := wisS_facts h
  intro l hl
  obtain ⟨x, hx, rfl⟩ := List.mem_map.1 hl
  have hc := wall_zero.1 h1 x hx
  have hv := wchk_valid hc
  have ht : tokErr x.1.data.toList = 0 := by
    unfold wchk at hc
    split at hc
    · assumption
    · exact absurd hc (by assumption)
  unfold tokErr at ht
  rw [if_pos hv] at ht
  refine ⟨fun e => ?_, ?_, fun r hr => ?_⟩
  · rw [show items x.1.data.toList = [] from e] at ht
    cases ht
  · show (items x.1.data.toList).length ≤ 64
    split at ht
    · cases ht
    · split at ht
      · cases ht
      · omega
  · have := items_runes _ hv r hr
    unfold Lib.validRune at this
    simp at this
    unfold R32
    omega
theorem ltrs_take_succ {RW : Rst} {i : Nat} {l : List Int} (h : RW[i]? = some l) : ltrs (RW.take (i + 1)) = ltrs (RW.take i) + l.length := by
  rw [List.take_add_one, h]
  unfold ltrs
  simp
theorem ltrs_take_le (RW : Rst) (i : Nat) : ltrs (RW.take i) ≤ ltrs RW := by
  have h : ltrs RW = ltrs (RW.take i) + ltrs (RW.drop i) := by
    unfold ltrs
    rw [← List.sum_append, ← List.map_append, List.take_append_drop]
  omega
theorem Bld.ownFrom {w w' : World} {q m n0 k B : Nat} {D : DataW Unit} {W : List (Nat × Int)} {F : List Fz} {vw vf : Value} {row : Option Nat} (h : Bld w q m n0 k D W F vw vf) (hg : w.grownBy w' row) (hr : ∀ r, row = some r → B ≤ r ∧ ∃ o : Obj, w.heap[r]? = some o ∧ o.isCells = false) (hm : m < B) : Bld w' q m n0 k D W F vw vf := by
  have key : ∀ {size n : Nat} {T : TypeId} {v : Value} {xs : List Value}, w.ownsRow n0 T size v n xs → v.ownBlock = none ∨ v.ownBlock ≠ row := fun {size n T v xs} hv => by
    rcases hv.2 with ⟨rfl, _⟩ | ⟨g, cap, cur, rfl, _, hh, _⟩
    · exact .inl rfl
    · right
      intro e
      obtain ⟨_, o, ho, hc⟩ := hr g e.symm
      rw [hh] at ho
      cases ho
      cases hc
  refine h.kept hg (fun e => ?_) (fun e => by have := (hr m e.symm).1; omega) (key h.way) (key h.frz)
  obtain ⟨_, o, ho, hc⟩ := hr q e.symm
  rw [h.box] at ho
  cases ho
  cases hc
theorem boxed_from {w w' : World} {B b : Nat} {t : TypeId} {v : Value} {row : Option Nat} (h : Boxed w b t v) (hg : w.grownBy w' row) (hr : ∀ r, row = some r → B ≤ r ∧ ∃ o : Obj, w.heap[r]? = some o ∧ o.isCells = false) : Boxed w' b t v :=
  (hg.block b h.lt (fun e => by
    obtain ⟨_, o, ho, hc⟩ := hr b e.symm
    unfold Boxed at h
    rw [h] at ho
    cases ho
    cases hc)).trans h
/-- What lies there while words are opened: the first i of them are. -/
structure BdI (w W : World) (q m n0 M Bb Bl : Nat) (vl : Value) (RW : Rst) (i : Nat) : Prop where
  st : ∃ F R P s, BSt W q m n0 M (2 + ltrs (RW.take i)) F R P s (RW.take i) ∧ (∀ a u, (a :: u) ∉ rq R s) ∧ ∀ l, RW[i]? = some l → P.map (·.2) < l
  bb : Boxed W Bb 107 (.pointer (some ⟨q, 0, none⟩))
  bl : Boxed W Bl 22 vl
  bel : Below n0 w W
  le : n0 ≤ q ∧ n0 ≤ m ∧ q < Bb ∧ m < Bb ∧ Bb < Bl
theorem BdI.own (w : World) (q m n0 M Bb Bl B : Nat) (vl : Value) (RW : Rst) (hB : Bl < B) : OwnFrom B (fun i W => BdI w W q m n0 M Bb Bl vl RW i) := by
  intro i W W' row h hg hr
  obtain ⟨l1, l2, l3, l4, l5⟩ := h.le
  obtain ⟨F, R, P, s, ⟨k, D, x, vw, vf, hb, h2⟩, h3⟩ := h.st
  exact ⟨⟨F, R, P, s, ⟨k, D, x, vw, vf, hb.ownFrom hg hr (by omega), h2⟩, h3⟩, boxed_from h.bb hg hr, boxed_from h.bl hg hr, h.bel.grown hg hb.lt.2.2 (fun r e => by have := (hr r e).1; omega), h.le⟩
theorem six_at (w : World) (o0 o1 o2 o3 o4 o5 : Obj) (n0 : Nat) (h : w.heap.size = n0) (W : World) (hW : (((((w.alloc o0).alloc o1).alloc o2).alloc o3).alloc o4).alloc o5 = W) :
    W.heap.size = n0 + 6 ∧ W.heap[n0]? = some o0 ∧ W.heap[n0 + 1]? = some o1 ∧ W.heap[n0 + 2]? = some o2 ∧ W.heap[n0 + 3]? = some o3 ∧ W.heap[n0 + 4]? = some o4 ∧ W.heap[n0 + 5]? = some o5 ∧ Below n0 w W ∧ Below (n0 + 3) (((w.alloc o0).alloc o1).alloc o2) W := by
  subst hW
  have up : ∀ {V : World} {k : Nat} {o : Obj} (o' : Obj), V.heap[k]? = some o → (V.alloc o').heap[k]? = some o := fun {V k o} o' e => (Below.heap_alloc V o' k (Array.getElem?_eq_some_iff.1 e).1).trans e
  have nw : ∀ (V : World) (o : Obj) (k : Nat), V.heap.size = k → (V.alloc o).heap[k]? = some o := fun V o k e => by rw [← e]; exact heap_alloc_new V o
  have s1 : (w.alloc o0).heap.size = n0 + 1 := by simp [h]
  have s2 : ((w.alloc o0).alloc o1).heap.size = n0 + 2 := by simp [h]
  have s3 : (((w.alloc o0).alloc o1).alloc o2).heap.size = n0 + 3 := by simp [h]
  have s4 : ((((w.alloc o0).alloc o1).alloc o2).alloc o3).heap.size = n0 + 4 := by simp [h]
  have s5 : (((((w.alloc o0).alloc o1).alloc o2).alloc o3).alloc o4).heap.size = n0 + 5 := by simp [h]
  refine ⟨by simp [h], up _ (up _ (up _ (up _ (up _ (nw _ _ _ h))))), up _ (up _ (up _ (up _ (nw _ _ _ s1)))), up _ (up _ (up _ (nw _ _ _ s2))), up _ (up _ (nw _ _ _ s3)), up _ (nw _ _ _ s4), nw _ _ _ s5, ?_, ?_⟩
  · exact ((((((Below.refl n0 w).alloc (by omega) o0).alloc (by omega) o1).alloc (by omega) o2).alloc (by omega) o3).alloc (by omega) o4).alloc (by omega) o5
  · exact (((Below.refl (n0 + 3) _).alloc (by omega) o3).alloc (by omega) o4).alloc (by omega) o5
theorem fz0_frI (M : Nat) (hM : 1 ≤ M) : FrI M 2 fz0 [[], [[]]] [] 0 [] :=
  ⟨FzOk.start hM, ⟨fun p hp => absurd hp List.not_mem_nil, fun p hp => absurd hp List.not_mem_nil, by decide, fun h => absurd rfl h⟩, rfl, Nat.zero_le _, by decide, fun f hf => by
    simp only [fz0, List.mem_cons, List.mem_nil_iff, or_false] at hf
    rcases hf with rfl | rfl <;> exact ⟨by decide, by decide, by decide, by decide⟩, fun p hp => absurd hp List.not_mem_nil⟩
/-- A region that ends in no other way. -/
def ZIn (S : Act → World → Prop) : Exit → Act → World → Prop
  | .normal, a, w => S a w
  | _, _, _ => False
theorem z_normal {P : Program} {id : Nat} {ops : Array Oper} {b : Bool} {Q : Exit → Act → World → Prop} {a : Act} {w : World} (h : (Code.region id ops b).wp P (ZIn (Q .normal)) a w) : (Code.region id ops b).wp P Q a w :=
  Code.wp_mono (fun e a w h => by
    cases e
    case normal => exact h
    all_goals exact (h : False).elim) h
/-- The automaton as it is built. -/
def BuildPost (w : World) (Q : List Rst) (e : Ending) (w' : World) : Prop :=
  ∃ d vs ve, e = .returned (.pointer (some ⟨d, 0, none⟩)) ∧ LdM w w' w.heap.size d (staK Q Q.length) (edK Q Q.length) vs ve

set_option maxRecDepth 100000 in
set_option maxHeartbeats 16000000 in
theorem build_any (A : Option Addr) (c : Nat) (L : List Wrd) (N : Nat) (hN : L.length = N) (w : World) (hO : Okw w) (hv : WRuns w (.slice A N c) L) (hn : wisS L = 0) (hsz : ∀ x ∈ L, x.1.size * 4 ≤ 140737488355328) :
    Calls Tryd.prog 36 #[.slice A N c] w (BuildPost w (staQ (rnW L))) := by
  obtain ⟨n0, hn0⟩ : ∃ z, w.heap.size = z := ⟨_, rfl⟩
  have hL : N ≤ 65536 := by rw [← hN]; exact (wisS_facts hn).2.2
  have hval : ∀ x ∈ L, Lib.validD x.1.data.toList = true ∧ x.1.size * 4 ≤ 140737488355328 := fun x hx => ⟨wchk_valid (wall_zero.1 (wisS_facts hn).1 x hx), hsz x hx⟩
  have hfa := rnW_facts hn
  have hri := rnW_rising hn
  have hhs := spell_seq 5 (by decide) (n0 + 5) n0 A N c L hN (by omega) hval w hn0 hO hv
  obtain ⟨RW, hRW⟩ : ∃ z, rnW L = z := ⟨_, rfl⟩
  have hRN : RW.length = N := by rw [← hRW]; unfold rnW; rw [List.length_map, hN]
  rw [hRW] at hfa hri hhs ⊢
  have hlt : ltrs RW ≤ 4194304 := by
    have h : ∀ l : Rst, (∀ x ∈ l, x.length ≤ 64) → ltrs l ≤ l.length * 64 := by
      intro l
      induction l with
      | nil => intro _; exact Nat.le_refl _
      | cons a l ih =>
        intro h
        have h1 := ih (fun x hx => h x (by simp [hx]))
        have h2 := h a (by simp)
        show (((a :: l).map List.length).sum) ≤ _
        rw [List.map_cons, List.sum_cons, List.length_cons, Nat.succ_mul]
        unfold ltrs at h1
        omega
    have := h RW (fun x hx => (hfa x hx).2.1)
    rw [hRN] at this
    omega
  have HFA := Lib.hid hfa; have HRI := Lib.hid hri; have HSQ := Lib.hid hhs; have HRN := Lib.hid hRN; have HN0 := Lib.hid hn0
  clear hfa hri hhs hval hv hO hn hsz hRW hRN hN
  refine (callsIn_wide (n := 6)).1 ?_
  refine callsIn_of_wp_marks Tryd.func36 rfl trivial ?_ rfl
  simp only [Tryd.ntmps36, List.size_toArray, List.length_cons, List.length_nil, Nat.reduceAdd, Nat.reduceSub, Array.replicate_succ, Array.replicate_zero, List.push_toArray, List.append_toArray, List.nil_append, List.cons_append]
  have hmm := @run_makeMap Tryd.prog
  gi_wp2_with (refine ⟨trivial, ?_⟩; gi_at_call 56; refine (callsIn_wide.2 (spelled_any A N c _)).mono ?_; rintro e w' ⟨rfl, rfl⟩)
  obtain ⟨W6, hW6⟩ : ∃ z, (((((w.alloc (Obj.cells #[Value.int IntKind.i32 0, Value.int IntKind.i32 0] 109)).alloc
      (Obj.cells #[Value.int IntKind.i32 0, Value.int IntKind.i32 0, Value.int IntKind.i32 0, Value.int IntKind.i32 0, Value.bool false, Value.int IntKind.i32 0, Value.int IntKind.i32 0, Value.int IntKind.i32 0, Value.int IntKind.i32 1, Value.bool true] 114)).alloc
      (Obj.map #[] 0)).alloc (Obj.cells #[Value.slice (some ⟨n0, 0, none⟩) 1 1, Value.slice (some ⟨n0 + 1, 0, none⟩) 2 2, Value.map (some (n0 + 2))] 118)).alloc
      (Obj.cells #[Value.pointer (some ⟨n0 + 3, 0, none⟩)] 107)).alloc (Obj.cells #[Value.slice A N c] 22) = z := ⟨_, rfl⟩
  obtain ⟨z6, z0, z1, z2, z3, z4, z5, zb, zb3⟩ := six_at w _ _ _ _ _ _ n0 HN0.out W6 hW6
  have hmade := TlMap.made ((w.alloc (Obj.cells #[Value.int IntKind.i32 0, Value.int IntKind.i32 0] 109)).alloc
      (Obj.cells #[Value.int IntKind.i32 0, Value.int IntKind.i32 0, Value.int IntKind.i32 0, Value.int IntKind.i32 0, Value.bool false, Value.int IntKind.i32 0, Value.int IntKind.i32 0, Value.int IntKind.i32 0, Value.int IntKind.i32 1, Value.bool true] 114))
  have hsz2 : ((w.alloc (Obj.cells #[Value.int IntKind.i32 0, Value.int IntKind.i32 0] 109)).alloc
      (Obj.cells #[Value.int IntKind.i32 0, Value.int IntKind.i32 0, Value.int IntKind.i32 0, Value.int IntKind.i32 0, Value.bool false, Value.int IntKind.i32 0, Value.int IntKind.i32 0, Value.int IntKind.i32 0, Value.int IntKind.i32 1, Value.bool true] 114)).heap.size = n0 + 2 := by simp [HN0.out]
  rw [hsz2] at hmade
  have hmade6 : TlMap W6 (n0 + 2) 0 (.map []) := hmade.kept (grown_none (zb3.mono (by simp [HN0.out]))) (by simp)
  have hbld : Bld W6 (n0 + 3) (n0 + 2) n0 0 (.map []) ([] ++ [(0, 0)]) fz0 (.slice (some ⟨n0, 0, none⟩) 1 1) (.slice (some ⟨n0 + 1, 0, none⟩) 2 2) :=
    ⟨by omega, by omega, z3, ⟨rfl, .inr ⟨n0, 1, _, rfl, Nat.le_refl _, z0, Nat.le_refl _, by decide, rfl, rfl⟩⟩, ⟨rfl, .inr ⟨n0 + 1, 2, _, rfl, by omega, z1, Nat.le_refl _, by decide, rfl, rfl⟩⟩, hmade6⟩
  have hI0 : BdI w W6 (n0 + 3) (n0 + 2) n0 (N + 1) (n0 + 4) (n0 + 5) (.slice A N c) RW 0 :=
    ⟨⟨fz0, [[], [[]]], [], 0, ⟨0, .map [], 0, _, _, hbld, ViewT.none_, Nat.zero_le _, fz0_frI (N + 1) (by omega)⟩, fun a u h => absurd h List.not_mem_nil, fun l hl => by
      have hne := (HFA.out l (List.mem_of_getElem? hl)).1
      cases l with
      | nil => exact absurd rfl hne
      | cons a t => exact List.nil_lt_cons a t⟩, z4, z5, zb, by omega⟩
  rw [hW6]
  have HS6 := Lib.hid (HSQ.out W6 (by omega) zb (by omega) (cell_of_row _ _ _ _ _ (0, 0) z5))
  have HZ6 := Lib.hid z6
  clear hbld hmade6 hmade hsz2 z0 z1 z2 z3 z4 z5 zb zb3 hW6 hmm HSQ z6
  refine wp_range_seqV (by decide) (gf := 84) (lb := #[.pointer (some ⟨n0 + 1 + 1 + 1 + 1 + 1, 0, none⟩)]) rfl (enters_of Tryd.func84 (by kernel_rfl) rfl)
    HS6.out (fun i x W W2 h hk => h.keeps hk) Keep1.trans (keep1_b (by have := HZ6.out; omega) (by have := HZ6.out; omega)) (Below.refl _ _) rfl
    (fun i W => BdI w W (n0 + 3) (n0 + 2) n0 (N + 1) (n0 + 4) (n0 + 5) (.slice A N c) RW i) (BdI.own w (n0 + 3) (n0 + 2) n0 (N + 1) (n0 + 4) (n0 + 5) _ _ RW (by have := HZ6.out; omega)) hI0
    (fun x => { tmps := #[.slice A N c, undef, .pointer none, .pointer (some ⟨n0 + 1 + 1 + 1 + 1, 0, none⟩), x, .agg #[.int .i32 0, .int .i32 0], .slice (some ⟨n0, 0, none⟩) 1 1, .agg #[.int .i32 0, .int .i32 0, .int .i32 0, .int .i32 0, .bool false], .agg #[.int .i32 0, .int .i32 0, .int .i32 0, .int .i32 1, .bool true], .slice (some ⟨n0 + 1, 0, none⟩) 2 2, .map (some (n0 + 1 + 1)), .agg #[.slice (some ⟨n0, 0, none⟩) 1 1, .slice (some ⟨n0 + 1, 0, none⟩) 2 2, .map (some (n0 + 1 + 1))], .pointer (some ⟨n0 + 1 + 1 + 1, 0, none⟩), .slice A N c, .func (.func 84) #[] #[.pointer (some ⟨n0 + 1 + 1 + 1 + 1 + 1, 0, none⟩)], x, undef, undef, undef, undef, undef, undef, undef, undef, undef, undef, undef, undef, undef, undef], defers := [] }) ?assign ?body ?done
  case assign =>
    intro l x W K hK
    gi_wp2
    exact hK
  case body =>
    intro l pre x W hsW hI hlt2 hpv
    obtain ⟨nv, ru, hru, hnv, hov⟩ := hpv
    obtain ⟨F, R, P, s, hst, hz0, hnx⟩ := hI.st
    obtain ⟨f1, f2, f3⟩ := HFA.out ru (List.mem_of_getElem? hru)
    have htk := ltrs_take_succ hru
    have htl := ltrs_take_le RW (pre + 1)
    have htw : RW.take (pre + 1) = RW.take pre ++ [ru] := by rw [List.take_add_one, hru]; rfl
    have hWl : (RW.take pre).length + 1 ≤ N + 1 := by rw [List.length_take]; omega
    have ca := add_any (n0 + 3) (n0 + 2) n0 (N + 1) _ F R P s _ W hst (by omega) hz0 x ru nv hov (by have := HZ6.out; omega) (by omega) (by omega) f3 (hnx ru hru) hWl
    have CA := Lib.hid ca
    have hbb := hI.bb.cell
    have HI := Lib.hid hI
    have HRU := Lib.hid hru
    have HTK := Lib.hid htk; have HTW := Lib.hid htw
    clear ca hst hz0 hnx hov hI htk htl htw hWl f1 f2 f3 hru
    gi_wp2_with (fail)
    refine ⟨trivial, ?_⟩
    refine (CallsIn.inRound l (callsIn_wide.2 CA.out)).mono ?_
    rintro e W2 ⟨⟨v2, rfl⟩, ⟨F', R', P', hst2, hP2⟩, hfr⟩
    have hkF : KeepsFrom W6.heap.size W W2 := ⟨hfr.bel.size, fun k o hk hh hc => hfr.keep k o (by have := HZ6.out; omega) hh (by have := HZ6.out; omega) (by have := HZ6.out; omega) (fun cs t fz e => by subst e; cases hc)⟩
    have hkB := hfr.keep (n0 + 5) _ (by omega) HI.out.bl (by omega) (by omega) (fun cs t fz e => by
      simp only [Obj.cells.injEq] at e
      obtain ⟨_, e, _⟩ := e
      rw [← e]
      exact ⟨by decide, by decide⟩)
    have hkC := hfr.keep (n0 + 4) _ (by omega) HI.out.bb (by omega) (by omega) (fun cs t fz e => by
      simp only [Obj.cells.injEq] at e
      obtain ⟨_, e, _⟩ := e
      rw [← e]
      exact ⟨by decide, by decide⟩)
    have hk1 : Keep1 n0 (n0 + 5) W W2 := ⟨hfr.bel, hkB.trans (Eq.symm HI.out.bl)⟩
    have hnext : BdI w W2 (n0 + 3) (n0 + 2) n0 (N + 1) (n0 + 4) (n0 + 5) (.slice A N c) RW (pre + 1) := by
      refine ⟨⟨F', R', P', 1, ?_, ?_, fun l' hl' => ?_⟩, hkC, hkB, HI.out.bel.trans hfr.bel, HI.out.le⟩
      · rw [HTW.out, ← HTW.out, HTK.out, HTW.out, ← Nat.add_assoc]
        exact hst2
      · obtain ⟨k, D, x', vw, vf, _, _, _, hf⟩ := hst2
        intro a u h
        rw [hf.fz.r1] at h
        simp at h
      · rw [hP2]
        obtain ⟨i1, e1⟩ := List.getElem?_eq_some_iff.1 HRU.out
        obtain ⟨i2, e2⟩ := List.getElem?_eq_some_iff.1 hl'
        rw [← e1, ← e2]
        exact List.pairwise_iff_getElem.1 HRI.out pre (pre + 1) i1 i2 (by omega)
    have HFIN := Lib.hid hkF; have HF1 := Lib.hid hk1; have HF2 := Lib.hid hnext
    clear hkF hkB hkC hk1 hnext hst2 hfr CA HI
    gi_wp2
    exact ⟨HFIN.out, HF1.out, HF2.out⟩
  case done =>
    intro D W hD hI hK
    obtain ⟨F, R, P, s, hst, hz0, _⟩ := hI.st
    have hRt : RW.take N = RW := List.take_of_length_le (by rw [HRN.out]; exact Nat.le_refl _)
    rw [hRt] at hst
    have cf : Calls Tryd.prog 58 #[.pointer (some ⟨n0 + 3, 0, none⟩), .int .i64 0] W _ := freeze_any (n0 + 3) (n0 + 2) n0 (N + 1) _ F R P s RW W hst (by omega) (by omega) hz0 0 (Nat.zero_le _)
    have CF := Lib.hid cf
    have hbb := hI.bb.cell
    have HI := Lib.hid hI; have HKD := Lib.hid hK
    clear cf hst hz0 hRt hI hK HS6
    gi_wp2_with (fail)
    refine ⟨trivial, ?_⟩
    gi_at_call 58
    refine (callsIn_wide.2 CF.out).mono ?_
    rintro e W2 ⟨⟨v2, rfl⟩, ⟨F', R', s', ⟨k, D', x', vw, vf, hbl, _, _, hfi⟩, _⟩, hfr⟩
    rw [List.take_zero] at hbl hfi
    obtain ⟨g, cap, evw, hway, hgl⟩ := own_lenW hbl (n := 0) rfl
    subst evw
    have ge := z_own_at op_ln hway (j := 0) (i := 0) (x := (s', x')) (u := .int .i32 (s' : Int)) rfl rfl
    simp only [Nat.zero_mul, Nat.add_zero] at ge
    have hop : rq R' s' = RW := hfi.opn
    have hkC := hfr.keep (n0 + 4) _ (by omega) HI.out.bb (by omega) (by omega) (fun cs t fz e => by
      simp only [Obj.cells.injEq] at e
      obtain ⟨_, e, _⟩ := e
      rw [← e]
      exact ⟨by decide, by decide⟩)
    have c0 := Boxed.cell hkC
    have c1 := hbl.cells.1
    have hDm : W2.heap[D]? = some (.deferred (some [])) := hfr.keep D _ (by have := HZ6.out; omega) HKD.out (by have := HZ6.out; omega) (by have := HZ6.out; omega) (fun cs t fz e => by cases e)
    have hDl := (Array.getElem?_eq_some_iff.1 hDm).1
    have hbw2 : Below n0 w W2 := HI.out.bel.trans hfr.bel
    have hlen := hfi.lens
    have cl := laid_any (n0 + 3) F'.length (N + 1) s' W2.heap.size F' R' W2.drew ((FrzAt.of_bld hbl (by have := hfi.fz.two; omega)).below (Below.refl _ _).drew) hfi.fz (by omega) (by simp at hlen; omega) hfi.way.sl rfl (by rw [hop]; exact HRI.out) (by rw [hop]; omega)
    rw [hop] at cl
    have eg : ∀ args w, (callFunc 59 args).run Tryd.prog w = .ok (.enter 59 args) w := enters_of Tryd.func59 (by kernel_rfl) rfl
    have CL := Lib.hid cl; have HB2 := Lib.hid hbw2; have HDM := Lib.hid hDm; have HDL := Lib.hid hDl; have HEG := Lib.hid eg
    have hn2 : n0 ≤ W2.heap.size := hbl.lt.2.2
    have hnD : n0 ≤ D := by have := HZ6.out; omega
    clear cl hbw2 hDm hDl eg hlen hfi hkC hbl hway hop hfr CF HI HKD hgl hbb
    gi_wp2
    refine wpIn_wide.2 (z_normal ?_)
    refine wp_region_held_drew (S := fun wx => wx.cell? ⟨n0 + 1 + 1 + 1 + 1, 0, none⟩ = some (.pointer (some ⟨n0 + 3, 0, none⟩)) ∧ wx.cell? ⟨n0 + 3, 0, none⟩ = some (.slice (some ⟨g, 0, none⟩) (0 + 1) cap) ∧ wx.cell? ⟨g, 0, none⟩ = some (.int .i32 (s' : Int))) (by kernel_rfl) ⟨c0, c1, ge⟩ (fun hS => ?_)
    change wpAnyH _ _ _ _ _ 10 _ _ _
    refine wpAnyH_take (i := 0) (v := .pointer (some ⟨n0 + 3, 0, none⟩)) rfl (by kernel_rfl) (by kernel_rfl) (by kernel_rfl) (fun _ _ _ h => h) (Or.inl ⟨by rfl, fun wy hy => by obtain ⟨y0, y1, y2⟩ := hy; go_simp⟩) hS ?_
    refine wpAnyH_take (i := 1) (v := .pointer (some ⟨n0 + 3, 0, none⟩)) rfl (by kernel_rfl) (by kernel_rfl) (by kernel_rfl) (fun _ _ _ h => h) (Or.inl ⟨by rfl, fun wy hy => by obtain ⟨y0, y1, y2⟩ := hy; go_simp⟩) hS ?_
    refine wpAnyH_take (i := 2) (v := .pointer (some ⟨n0 + 3, 0, none⟩)) rfl (by kernel_rfl) (by kernel_rfl) (by kernel_rfl) (fun _ _ _ h => h) (Or.inl ⟨by rfl, fun wy hy => by obtain ⟨y0, y1, y2⟩ := hy; go_simp⟩) hS ?_
    refine wpAnyH_take (i := 3) (v := .pointer (some ⟨n0 + 3, 0, none⟩)) rfl (by kernel_rfl) (by kernel_rfl) (by kernel_rfl) (fun _ _ _ h => h) (Or.inl ⟨by rfl, fun wy hy => by obtain ⟨y0, y1, y2⟩ := hy; go_simp⟩) hS ?_
    refine wpAnyH_take (i := 4) (v := .slice (some ⟨g, 0, none⟩) (0 + 1) cap) rfl (by kernel_rfl) (by kernel_rfl) (by kernel_rfl) (fun _ _ _ h => h) (Or.inl ⟨by rfl, fun wy hy => by obtain ⟨y0, y1, y2⟩ := hy; go_simp⟩) hS ?_
    refine wpAnyH_take (i := 5) (v := .pointer (some ⟨g, 0, none⟩)) rfl (by kernel_rfl) (by kernel_rfl) (by kernel_rfl) (fun _ _ _ h => h) (Or.inl ⟨by rfl, fun wy hy => by obtain ⟨y0, y1, y2⟩ := hy; go_simp⟩) hS ?_
    refine wpAnyH_take (i := 6) (v := .pointer (some ⟨g, 0, none⟩)) rfl (by kernel_rfl) (by kernel_rfl) (by kernel_rfl) (fun _ _ _ h => h) (Or.inl ⟨by rfl, fun wy hy => by obtain ⟨y0, y1, y2⟩ := hy; go_simp⟩) hS ?_
    refine wpAnyH_take (i := 7) (v := .int .i32 (s' : Int)) rfl (by kernel_rfl) (by kernel_rfl) (by kernel_rfl) (fun _ _ _ h => h) (Or.inl ⟨by rfl, fun wy hy => by obtain ⟨y0, y1, y2⟩ := hy; go_simp⟩) hS ?_
    refine wpAnyH_ready (rs := [8]) (by kernel_rfl) (by simp) ?_
    refine AllReadyH.cons rfl (fun K hK => ?_) AllReadyH.nil
    refine xstep_call2 rfl 59 (.tmp 21) (.tmp 28) 107 21 rfl HEG.out (by go_simp) (by go_simp) CL.out ?_
    rintro e W3 ⟨d, vs, ve, rfl, hld⟩
    refine ⟨_, rfl, ?_⟩
    have b3 : Below W2.heap.size W2.drew W3 := hld.bel
    refine hK.out _ _ ⟨cell_keep b3 hS.1, cell_keep b3 hS.2.1, cell_keep b3 hS.2.2⟩ (fun hS => ?_)
    refine wpAnyH_take (i := 9) (v := .pointer (some ⟨d, 0, none⟩)) rfl (by kernel_rfl) (by kernel_rfl) (by kernel_rfl) (fun _ _ _ h => h) (Or.inl ⟨by rfl, fun wy hy => by obtain ⟨y0, y1, y2⟩ := hy; go_simp⟩) hS ?_
    refine wpAnyH_done (by kernel_rfl) ?_ _
    simp only [ZIn]
    have HLD := Lib.hid hld
    have hmk : ZMarks n0 W3 [D] := ⟨List.nodup_cons.2 ⟨List.not_mem_nil, List.nodup_nil⟩, fun D' hD' => by
      obtain rfl := List.mem_singleton.1 hD'
      exact ⟨hnD, (b3.block D' HDL.out).trans HDM.out⟩⟩
    have HMK := Lib.hid hmk
    have HB3 : Hid (Below n0 w W3) := Lib.hid (HB2.out.trans (((Below.refl _ _).drew.trans b3).mono hn2))
    have hn3 : n0 ≤ W3.heap.size := Nat.le_trans hn2 b3.size
    have hdn : n0 ≤ d := Nat.le_trans hn2 hld.d0
    clear hld b3 hmk hS CL
    simp only [Act.put, List.getElem_toArray, List.getElem_cons_zero, List.getElem_cons_succ, List.setIfInBounds_toArray, List.set_cons_succ, List.set_cons_zero]
    gi_wp2
    refine z_leaves_marks [D] W3 hn3 HMK.out (fun w' hb' hk' => ?_)
    refine ⟨_, results_tmp rfl _ _ _, ?_⟩
    refine ⟨d, vs, ve, rfl, ?_⟩
    rw [HN0.out]
    exact ⟨hk' d _ HLD.out.box rfl, z_own_cells (z_own_base HLD.out.st hn2) hk', z_own_cells (z_own_base HLD.out.ed hn2) hk', HB3.out.trans hb', hdn⟩
end Go.Proofs.YtnjhbblhlgpgdaaDoor

/- dawg.New: the automaton of normal words, or why they are not normal. -/
namespace Go.Proofs.YtnjhbblhlgpgdaaDoor
open Go.RowKit Go.Shelf Go.Lib
attribute [local go_sem] Oper.semAt_some
set_option linter.unusedSimpArgs false
set_option linter.unusedVariables false

theorem info_i64 : (Tryd.prog.info? 3).map (fun i => (i.zero, i.size, i.bytes)) = some (some (.int .i64 0), 1, 8) := by kernel_rfl
/-- The automaton while the words' numbers are laid. -/
structure DgM (w W : World) (n1 d : Nat) (sts : List StaL) (eds : List Edg) (L1 : List Wrd) (vs ve vf : Value) : Prop where
  box : Bx W d 82 #[vs, ve, vf]
  st : StOwn W n1 vs sts
  ed : EdOwn W n1 ve eds
  fq : W.ownsRow n1 3 1 vf L1.length (gCells frCell L1)
  bel : Below n1 w W
  d0 : n1 ≤ d
theorem own_not_box {W : World} {n1 size n d : Nat} {T T' : TypeId} {v : Value} {xs : List Value} {cs : Array Value} (hv : W.ownsRow n1 T size v n xs) (hb : Bx W d T' cs) (hT : T ≠ T') : v.ownBlock ≠ some d := fun e => by
  rcases hv.2 with ⟨rfl, _⟩ | ⟨g, cap, cur, rfl, _, hg, _⟩
  · cases e
  · have e2 : g = d := by simpa [Value.ownBlock] using e
    unfold Bx at hb
    rw [e2, hb] at hg
    simp only [Option.some.injEq, Obj.cells.injEq] at hg
    exact hT hg.2.1.symm
theorem DgM.below {w W W' : World} {n1 d : Nat} {sts : List StaL} {eds : List Edg} {L1 : List Wrd} {vs ve vf : Value} (h : DgM w W n1 d sts eds L1 vs ve vf) (hb : Below W.heap.size W W') : DgM w W' n1 d sts eds L1 vs ve vf :=
  ⟨h.box.below hb, z_own_below h.st hb, z_own_below h.ed hb, z_own_below h.fq hb, h.bel.trans (hb.mono (by have := h.box.lt; have := h.d0; omega)), h.d0⟩
/-- One number more. -/
theorem DgM.push {w W W5 : World} {n1 d : Nat} {sts : List StaL} {eds : List Edg} {L1 L2 : List Wrd} {vs ve vf v' : Value} (h : DgM w W n1 d sts eds L1 vs ve vf) (o : Obj) (hg : (W.alloc o).grownBy W5 vf.ownBlock) (hw : W5.ownsRow n1 3 1 v' L2.length (gCells frCell L2)) :
    DgM w (W5.setCell ⟨d, 2, none⟩ v') n1 d sts eds L2 vs ve v' ∧ Bx W5 d 82 #[vs, ve, vf] := by
  have h1 := h.below (bel_one W o)
  have a1 := own_not_box h1.st h1.box (by decide)
  have a2 := own_not_box h1.ed h1.box (by decide)
  have a3 := own_not_box h1.fq h1.box (by decide)
  have b1 := own_apart h1.st h1.fq (by decide)
  have b2 := own_apart h1.ed h1.fq (by decide)
  have hbx : Bx W5 d 82 #[vs, ve, vf] := (hg.block d h1.box.lt (fun e => a3 e.symm)).trans h1.box
  have hst := h1.st.kept hg b1
  have hed := h1.ed.kept hg b2
  have a4 := own_not_box hw hbx (by decide)
  have hs := z_grown_set W5 d 2 v'
  have hn1 : n1 ≤ (W.alloc o).heap.size := by have := h1.box.lt; have := h.d0; omega
  have hn5 : n1 ≤ W5.heap.size := Nat.le_trans hn1 hg.size
  refine ⟨⟨z_set_cells hbx 2 v', hst.kept hs (.inr a1), hed.kept hs (.inr a2), hw.kept hs (.inr a4), ?_, h.d0⟩, hbx⟩
  exact (h1.bel.grown hg hn1 (fun r e => by
    rcases h1.fq.2 with ⟨e2, _⟩ | ⟨g, cap, cur, e2, hb, _⟩
    · rw [e2] at e; cases e
    · rw [e2] at e
      have : g = r := by simpa [Value.ownBlock] using e
      omega)).grown hs hn5 (fun r e => by cases e; exact h.d0)
theorem DgM.at_ {w W : World} {n1 d : Nat} {Q : List Rst} {L : List Wrd} {vs ve vf : Value} (h : DgM w W n1 d (staK Q Q.length) (edK Q Q.length) L vs ve vf) : DgAt W d Q L :=
  ⟨vs, ve, vf, h.box, GRuns.of_own st_ln rfl h.st, GRuns.of_own ed_ln rfl h.ed, GRuns.of_own fr_ln rfl h.fq⟩
/-- What New makes of words, where their runes are not too many: numbers hold all. -/
theorem dgOk {L : List Wrd} (hn : wisS L = 0) : DgOk (staQ (rnW L)) L := by
  have hfa := rnW_facts hn
  have hl := (wisS_facts hn).2.2
  have h : ∀ l : Rst, (∀ x ∈ l, x.length ≤ 64) → ltrs l ≤ l.length * 64 := by
    intro l
    induction l with
    | nil => intro _; exact Nat.le_refl _
    | cons a l ih =>
      intro h
      have h1 := ih (fun x hx => h x (by simp [hx]))
      have h2 := h a (by simp)
      show (((a :: l).map List.length).sum) ≤ _
      rw [List.map_cons, List.sum_cons, List.length_cons, Nat.succ_mul]
      unfold ltrs at h1
      omega
  have h2 := h (rnW L) (fun x hx => (hfa x hx).2.1)
  have h3 : (rnW L).length = L.length := by unfold rnW; rw [List.length_map]
  have h4 := staQ_most (rnW L)
  have h5 := edK_all (rnW_rising hn) (staQ (rnW L)).length
  exact ⟨staQ_len _, by omega, by omega, by omega⟩
/-- What New answers. -/
def NewDPost (w : World) (L : List Wrd) (e : Ending) (w' : World) : Prop :=
  Below w.heap.size w w' ∧ ((wisS L ≠ 0 ∧ e = .returned (.tuple #[.pointer none, .int .i64 (wisS L)])) ∨ (wisS L = 0 ∧ ∃ d, e = .returned (.tuple #[.pointer (some ⟨d, 0, none⟩), .int .i64 0]) ∧ DgAt w' d (staQ (rnW L)) L))

set_option maxRecDepth 100000 in
set_option maxHeartbeats 16000000 in
theorem newd_any (v : Value) (L : List Wrd) (w : World) (hO : Okw w) (hv : WRuns w v L) (hl : L.length ≤ 2000000) (hz : szW L) :
    Calls Tryd.prog 12 #[v] w (NewDPost w L) := by
  have c1 := xis_any v L w hO hv hl hz
  by_cases h0 : wisS L = 0
  · have hP : ∀ (w' : World) (d : Nat), Below w.heap.size w w' → DgAt w' d (staQ (rnW L)) L → NewDPost w L (.returned (.tuple #[.pointer (some ⟨d, 0, none⟩), .int .i64 0])) w' := fun w' d hb hd => ⟨hb, .inr ⟨h0, d, rfl, hd⟩⟩
    have hk := dgOk h0
    rw [h0] at c1
    obtain ⟨A, c, ev⟩ := hv.slice
    have c2 := fun w' (hO' : Okw w') (hv' : WRuns w' (.slice A L.length c) L) => build_any A c L L.length rfl w' hO' hv' h0 (fun x hx => by have := hz x hx; omega)
    obtain ⟨N, hN⟩ : ∃ z, L.length = z := ⟨_, rfl⟩
    rw [hN] at c2 ev
    subst ev
    obtain ⟨Q, hQ⟩ : ∃ z, staQ (rnW L) = z := ⟨_, rfl⟩
    rw [hQ] at c2 hP hk
    have hNb : N ≤ 65536 := by rw [← hN]; exact (wisS_facts h0).2.2
    have C1 := Lib.hid c1; have C2 := Lib.hid c2; have HP := Lib.hid hP; have HV := Lib.hid hv; have HN := Lib.hid hN; have HO := Lib.hid hO; have HKK := Lib.hid hk
    clear c1 c2 hP hv hl hz h0 hN hQ hO hk
    go_enter Tryd.func12, Tryd.ntmps12
    go_wp2_with fail
    refine C1.out.mono ?_
    rintro e w1 ⟨rfl, b1⟩
    have c3 := C2.out w1 (HO.out.below b1) (HV.out.below b1)
    have C3 := Lib.hid c3
    have B1 := Lib.hid b1; have HV1 := Lib.hid (HV.out.below b1)
    clear c3 C1 C2 b1 HO
    go_wp2_with fail
    refine C3.out.mono ?_
    rintro e w2 ⟨d, vs, ve, rfl, hld⟩
    obtain ⟨n1, hn1⟩ : ∃ z, w1.heap.size = z := ⟨_, rfl⟩
    rw [hn1] at hld
    have hM0 : Hid (DgM w1 w2 n1 d (staK Q Q.length) (edK Q Q.length) (L.take 0) vs ve (.slice none 0 0)) := Lib.hid ⟨hld.box, hld.st, hld.ed, World.ownsRow_nil _ _ _ _, hld.bel, hld.d0⟩
    have HN1 := Lib.hid hn1
    clear hld hn1 C3
    go_wp2
    go_loopw [17] (fun s17 wr => ∃ (i : Nat) (vf : Value), s17 = .int .i64 i ∧ i ≤ N ∧ Hid (DgM w1 wr n1 d (staK Q Q.length) (edK Q Q.length) (L.take i) vs ve vf)) (fun s17 _ => N - (RowKit.intOf s17).toNat)
    case atStart => exact ⟨0, _, rfl, Nat.zero_le _, hM0⟩
    case round =>
      obtain ⟨i, vf, rfl, hiN, HM⟩ := hrel
      by_cases hi : i < N
      · obtain ⟨⟨x1, x2⟩, hx⟩ : ∃ x, L[i]? = some x := ⟨_, List.getElem?_eq_getElem (by rw [HN.out]; exact hi)⟩
        have hbw : Below w1.heap.size w1 wr := by rw [HN1.out]; exact HM.out.bel
        obtain ⟨b, o, rfl, hlt, hc⟩ := (HV1.out.below hbw).cells HN.out (by omega)
        obtain ⟨g0, g1⟩ := wrd_cells hc hx
        simp only at g0 g1
        have i1 : (i : Int) < (N : Int) := by omega
        obtain ⟨B, hB⟩ : ∃ z, wr.heap.size = z := ⟨_, rfl⟩
        have hal := bel_one wr (.cells #[.string x1, .int .i64 x2] 55)
        have hbx := bx_new wr 55 #[.string x1, .int .i64 x2]
        have hM1 := HM.out.below hal
        rw [hB] at hbx
        obtain ⟨W1, hW1⟩ : ∃ z, wr.alloc (.cells #[.string x1, .int .i64 x2] 55) = z := ⟨_, rfl⟩
        rw [hW1] at hal hbx hM1
        have hli : (L.take i).length = i := by rw [List.length_take, HN.out]; exact Nat.min_eq_left (by omega)
        obtain ⟨Af, cf, ef⟩ := z_own_slice hM1.fq
        rw [hli] at ef
        subst ef
        have hfq := hM1.fq
        rw [hli] at hfq
        have hn1W : n1 ≤ W1.heap.size := by have := hM1.box.lt; have := hM1.d0; omega
        obtain ⟨v9, w9, hrun, hown9, hgr9, hblk9⟩ := append_one (P := Tryd.prog) fr_ln fr_one info_i64 rfl (by decide) (by decide) Tryd.underlying78 W1.drew n1 _ i _ hfq (x1, x2) hn1W (by omega)
        have htk : L.take (i + 1) = L.take i ++ [(x1, x2)] := by rw [List.take_add_one, hx]; rfl
        obtain ⟨p1, p2⟩ := (show DgM w1 W1.drew n1 d (staK Q Q.length) (edK Q Q.length) (L.take i) vs ve (.slice Af i cf) from hM1.below (Below.refl _ _).drew).push (v' := v9) (L2 := L.take (i + 1)) _ hgr9 (by
          rw [htk, List.length_append, hli, gCells_snoc]
          exact hown9)
        obtain ⟨A9, c9, e9⟩ := z_own_slice hown9
        subst e9
        have hbd : Bx W1 d 82 #[vs, ve, .slice Af i cf] := hM1.box
        have hdB : d < B := by have := HM.out.box.lt; omega
        have nB : B ≠ d := by omega
        obtain ⟨c0, c1⟩ := hbx.two
        have e2 := hbd.cell (j := 2) (v := .slice Af i cf) rfl
        have a3 := own_not_box hM1.fq hbx (by decide)
        have hB9 : Bx w9 B 55 #[.string x1, .int .i64 x2] := (hgr9.block B (by have := hbx.lt; simp; omega) (fun e => a3 e.symm)).trans ((Below.heap_alloc _ _ _ hbx.lt).trans hbx)
        obtain ⟨m0, m1⟩ := hB9.two
        have d1a : (W1.drew.alloc (.cells #[.int .i64 x2] 3)).cell? ⟨d, 2, none⟩ = some (.slice Af i cf) := cell_keep (bel_one _ _) e2
        have d1b : (W1.alloc (.cells #[.int .i64 x2] 3)).drew.cell? ⟨d, 2, none⟩ = some (.slice Af i cf) := cell_keep (bel_one _ _).drew e2
        have q1 : w9.cell? ⟨d, 2, none⟩ = some (.slice Af i cf) := p2.cell rfl
        have q2 := p2.thaw 2
        have hW1s : W1.heap.size = B + 1 := by rw [← hW1]; simp [hB]
        have HRUN := Lib.hid hrun
        have HP1 := Lib.hid p1; have HW1 := Lib.hid hW1; have HBB := Lib.hid hB
        clear hc hx hbw hlt hal hbx hM1 hli hfq hn1W hrun hown9 hgr9 hblk9 htk p1 p2 hbd a3 hB9 hW1 hB HM
        go_wp2
        rw [HW1.out, HBB.out]
        apply z_region_at (W := w9.setCell ⟨d, 2, none⟩ (.slice A9 (i + 1) c9))
        · refine wp_region_held_drew (S := fun wx => wx.cell? ⟨B, 0, none⟩ = some (.string x1) ∧ wx.cell? ⟨B, 1, none⟩ = some (.int .i64 x2)) (by kernel_rfl) ⟨c0, c1⟩ (fun hS => ?_)
          change wpAnyH _ _ _ _ _ 12 _ _ _
          refine wpAnyH_take (i := 0) (v := .pointer (some ⟨d, 0, none⟩)) rfl (by kernel_rfl) (by kernel_rfl) (by kernel_rfl) (fun _ _ _ h => h) (Or.inl ⟨by rfl, fun wy hy => by obtain ⟨y0, y1⟩ := hy; go_simp⟩) hS ?_
          refine wpAnyH_take (i := 1) (v := .pointer (some ⟨d, 0, none⟩)) rfl (by kernel_rfl) (by kernel_rfl) (by kernel_rfl) (fun _ _ _ h => h) (Or.inl ⟨by rfl, fun wy hy => by obtain ⟨y0, y1⟩ := hy; go_simp⟩) hS ?_
          refine wpAnyH_take (i := 2) (v := .pointer (some ⟨d, 0, none⟩)) rfl (by kernel_rfl) (by kernel_rfl) (by kernel_rfl) (fun _ _ _ h => h) (Or.inl ⟨by rfl, fun wy hy => by obtain ⟨y0, y1⟩ := hy; go_simp⟩) hS ?_
          refine wpAnyH_take (i := 3) (v := .pointer (some ⟨d, 2, none⟩)) rfl (by kernel_rfl) (by kernel_rfl) (by kernel_rfl) (fun _ _ _ h => h) (Or.inl ⟨by rfl, fun wy hy => by obtain ⟨y0, y1⟩ := hy; go_simp⟩) hS ?_
          refine wpAnyH_take (i := 5) (v := .pointer (some ⟨B, 1, none⟩)) rfl (by kernel_rfl) (by kernel_rfl) (by kernel_rfl) (fun _ _ _ h => h) (Or.inl ⟨by rfl, fun wy hy => by obtain ⟨y0, y1⟩ := hy; go_simp⟩) hS ?_
          refine wpAnyH_take (i := 6) (v := .int .i64 x2) rfl (by kernel_rfl) (by kernel_rfl) (by kernel_rfl) (fun _ _ _ h => h) (Or.inl ⟨by rfl, fun wy hy => by obtain ⟨y0, y1⟩ := hy; go_simp⟩) hS ?_
          refine wpAnyH_ready (rs := [4, 7]) (by kernel_rfl) (by simp) ?_
          refine AllReadyH.cons rfl (fun K hK => ?_) (AllReadyH.cons rfl (fun K hK => ?_) AllReadyH.nil)
          · go_simp
            refine hK.out _ _ hS (fun hS => ?_)
            refine wpAnyH_ready (rs := [7]) (by kernel_rfl) (by simp) ?_
            refine AllReadyH.cons rfl (fun K hK => ?_) AllReadyH.nil
            go_simp
            refine hK.out _ _ ⟨cell_keep (bel_one _ _) hS.1, cell_keep (bel_one _ _) hS.2⟩ (fun hS => ?_)
            refine wpAnyH_ready (rs := [8]) (by kernel_rfl) (by simp) ?_
            refine AllReadyH.cons rfl (fun K hK => ?_) AllReadyH.nil
            refine xstep_append ?_ (.tmp 25) (.tmp 28) 78 _ _ _ _ ?_ HRUN.out ?_ ?_ ?_
            · rfl
            · rfl
            · go_simp
            · go_simp
            refine hK.out _ _ ⟨m0, m1⟩ (fun hS => ?_)
            refine wpAnyH_take (i := 9) (v := .pointer (some ⟨d, 0, none⟩)) rfl (by kernel_rfl) (by kernel_rfl) (by kernel_rfl) (fun _ _ _ h => h) (Or.inl ⟨by rfl, fun wy hy => by obtain ⟨y0, y1⟩ := hy; go_simp⟩) hS ?_
            refine wpAnyH_take (i := 10) (v := .pointer (some ⟨d, 2, none⟩)) rfl (by kernel_rfl) (by kernel_rfl) (by kernel_rfl) (fun _ _ _ h => h) (Or.inl ⟨by rfl, fun wy hy => by obtain ⟨y0, y1⟩ := hy; go_simp⟩) hS ?_
            refine wpAnyH_ready (rs := [11]) (by kernel_rfl) (by simp) ?_
            refine AllReadyH.cons rfl (fun K hK => ?_) AllReadyH.nil
            go_simp
            refine hK.out _ _ ⟨(z_cell_set_ne _ _ _ _ _ _ nB).trans m0, (z_cell_set_ne _ _ _ _ _ _ nB).trans m1⟩ (fun hS => ?_)
            exact wpAnyH_done (by kernel_rfl) ⟨rfl, rfl⟩ _
          · go_simp
            refine hK.out _ _ ⟨cell_keep (bel_one _ _) hS.1, cell_keep (bel_one _ _) hS.2⟩ (fun hS => ?_)
            refine wpAnyH_ready (rs := [4]) (by kernel_rfl) (by simp) ?_
            refine AllReadyH.cons rfl (fun K hK => ?_) AllReadyH.nil
            go_simp
            refine hK.out _ _ hS (fun hS => ?_)
            refine wpAnyH_ready (rs := [8]) (by kernel_rfl) (by simp) ?_
            refine AllReadyH.cons rfl (fun K hK => ?_) AllReadyH.nil
            refine xstep_append ?_ (.tmp 25) (.tmp 28) 78 _ _ _ _ ?_ HRUN.out ?_ ?_ ?_
            · rfl
            · rfl
            · go_simp
            · go_simp
            refine hK.out _ _ ⟨m0, m1⟩ (fun hS => ?_)
            refine wpAnyH_take (i := 9) (v := .pointer (some ⟨d, 0, none⟩)) rfl (by kernel_rfl) (by kernel_rfl) (by kernel_rfl) (fun _ _ _ h => h) (Or.inl ⟨by rfl, fun wy hy => by obtain ⟨y0, y1⟩ := hy; go_simp⟩) hS ?_
            refine wpAnyH_take (i := 10) (v := .pointer (some ⟨d, 2, none⟩)) rfl (by kernel_rfl) (by kernel_rfl) (by kernel_rfl) (fun _ _ _ h => h) (Or.inl ⟨by rfl, fun wy hy => by obtain ⟨y0, y1⟩ := hy; go_simp⟩) hS ?_
            refine wpAnyH_ready (rs := [11]) (by kernel_rfl) (by simp) ?_
            refine AllReadyH.cons rfl (fun K hK => ?_) AllReadyH.nil
            go_simp
            refine hK.out _ _ ⟨(z_cell_set_ne _ _ _ _ _ _ nB).trans m0, (z_cell_set_ne _ _ _ _ _ _ nB).trans m1⟩ (fun hS => ?_)
            exact wpAnyH_done (by kernel_rfl) ⟨rfl, rfl⟩ _
        clear HRUN m0 m1 d1a d1b q1 q2 c0 c1 e2
        go_wp2
        exact ⟨⟨i + 1, _, by go_num, by omega, HP1⟩, by simp [RowKit.intOf]; omega⟩
      · obtain rfl : i = N := by omega
        have i1 : ¬ (i : Int) < (i : Int) := by omega
        have hLt : L.take i = L := List.take_of_length_le (by rw [HN.out]; exact Nat.le_refl _)
        rw [hLt] at HM
        have hfin := HP.out wr d (B1.out.trans (Below.mono (by rw [← HN1.out] at HM; exact HM.out.bel) B1.out.size)) HM.out.at_
        have HFIN := Lib.hid hfin
        clear hfin hLt
        go_wp2
        go_ret2
        exact HFIN.out
  · have h0' : (wisS L == 0) = false := by simpa using h0
    have hP : ∀ w', Below w.heap.size w w' → NewDPost w L (.returned (.tuple #[.pointer none, .int .i64 (wisS L)])) w' := fun w' hb => ⟨hb, .inl ⟨h0, rfl⟩⟩
    obtain ⟨er, her⟩ : ∃ z, wisS L = z := ⟨_, rfl⟩
    rw [her] at c1 h0' h0
    simp only [her] at hP
    have C1 := Lib.hid c1; have HP := Lib.hid hP
    have h0'' : (er != 0) = true := by simpa using h0
    clear c1 hP hv hz h0 her hO hl
    go_enter Tryd.func12, Tryd.ntmps12
    go_wp2_with fail
    refine C1.out.mono ?_
    rintro e w1 ⟨rfl, b1⟩
    have B1 := Lib.hid b1; clear b1
    go_wp2
    go_ret2
    exact HP.out _ B1.out
end Go.Proofs.YtnjhbblhlgpgdaaDoor

/- Layer 10, plain: the word at a place is spelled edge by edge; a word's place is summed up edge by edge. -/
namespace Go.Proofs.YtnjhbblhlgpgdaaDoor
set_option linter.unusedVariables false
set_option linter.unusedSimpArgs false

theorem spell_step {W : Rst} (hW : W.Pairwise (· < ·)) {p : List Int} {i : Nat} {r : Int} {t : List Int} (hx : (behP W p)[i]? = some (r :: t)) (Q : List Rst) :
    ∃ k, (edE Q (behP W p))[k]? = some (r, Q.idxOf (behR (behP W p) r), ahdR (behP W p) r) ∧ (∀ (j : Nat) (z : Edg), j ≤ k → (edE Q (behP W p))[j]? = some z → z.2.2 ≤ i) ∧ (∀ (j : Nat) (z : Edg), k < j → (edE Q (behP W p))[j]? = some z → i < z.2.2) ∧
      ahdR (behP W p) r ≤ i ∧ (behP W (p ++ [r]))[i - ahdR (behP W p) r]? = some t ∧ r ∈ hdsR (behP W p) := by
  obtain ⟨x, hX⟩ : ∃ z, behP W p = z := ⟨_, rfl⟩
  have hxr : x.Pairwise (· < ·) := by rw [← hX]; exact behP_rising hW
  rw [behP_snoc]
  rw [hX] at hx ⊢
  obtain ⟨h1, h2, h3⟩ := at_head hxr i r t hx
  have hr : r ∈ hdsR x := mem_hdsR.2 ⟨t, List.mem_of_getElem? hx⟩
  obtain ⟨k, hk⟩ := List.mem_iff_getElem?.1 hr
  have hri := hdsR_rising hxr
  obtain ⟨hkl, hke⟩ := List.getElem?_eq_some_iff.1 hk
  refine ⟨k, by rw [edE_key, hk]; rfl, fun j z hj hz => ?_, fun j z hj hz => ?_, h1, h2, hr⟩
  · rw [edE_key] at hz
    obtain ⟨a, ha, rfl⟩ := Option.map_eq_some_iff.1 hz
    obtain ⟨hjl, hje⟩ := List.getElem?_eq_some_iff.1 ha
    show ahdR x a ≤ i
    rcases Nat.lt_or_ge j k with hlt | hge
    · have : a < r := by rw [← hje, ← hke]; exact List.pairwise_iff_getElem.1 hri j k hjl hkl hlt
      have := ahdR_rise hxr (List.mem_of_getElem? ha) this
      omega
    · obtain rfl : j = k := by omega
      have : a = r := by rw [← hje, ← hke]
      rw [this]; exact h1
  · rw [edE_key] at hz
    obtain ⟨a, ha, rfl⟩ := Option.map_eq_some_iff.1 hz
    obtain ⟨hjl, hje⟩ := List.getElem?_eq_some_iff.1 ha
    exact h3 a (by rw [← hje, ← hke]; exact List.pairwise_iff_getElem.1 hri k j hkl hjl hj)
/-- Where spelling ends. -/
theorem spell_end {W : Rst} (hW : W.Pairwise (· < ·)) {p : List Int} {i : Nat} {u : List Int} (hx : (behP W p)[i]? = some u) : (i = 0 ∧ [] ∈ behP W p) ↔ u = [] := by
  have hxr : (behP W p).Pairwise (· < ·) := behP_rising hW
  constructor
  · rintro ⟨rfl, h⟩
    have := nil_zero hxr h
    rw [hx] at this
    exact Option.some.inj this
  · rintro rfl
    exact ⟨nil_first hxr hx, List.mem_of_getElem? hx⟩
/-- The state that is met behind some runes, by its number. -/
theorem staQ_at {W : Rst} {p : List Int} (hp : behP W p ≠ []) : (staQ W)[(staQ W).idxOf (behP W p)]? = some (behP W p) := getElem?_idxOf' (staQ_beh p hp)
theorem place_step {W : Rst} {p : List Int} {r : Int} : (r ∈ hdsR (behP W p) ↔ behP W (p ++ [r]) ≠ []) := hdsR_behP
end Go.Proofs.YtnjhbblhlgpgdaaDoor

