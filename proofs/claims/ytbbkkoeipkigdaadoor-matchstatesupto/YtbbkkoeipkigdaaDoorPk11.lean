/- Texts that several proofs of this seat share, one behind the other: MPlaces. -/
import Derived.Test.YtbbkkoeipkigdaaDoorPk10
/- match's places: the rules that hit at each place of a text. -/
namespace Go.Proofs.YtbbkkoeipkigdaaDoor
open Go.RowKit Go.Shelf
attribute [local go_sem] Oper.semAt_some
set_option linter.unusedSimpArgs false
set_option linter.unusedVariables false

def mkD (D : Nat) : Deferred := { target := .collected D, args := #[] }
/-- The marks of loops that have ended. -/
structure Marks (n0 : Nat) (W : World) (Ds : List Nat) : Prop where
  nd : Ds.Nodup
  at_ : ∀ D ∈ Ds, n0 ≤ D ∧ W.heap[D]? = some (.deferred (some []))
theorem leaves_marks {F : Fence} {n : Nat} {P : Program} {fn : Func} {tmps : Array Value} {R : Ending → World → Prop} {n0 : Nat} : ∀ (Ds : List Nat) (w : World), n0 ≤ w.heap.size → Marks n0 w Ds →
    (∀ w', Below n0 w w' → (∀ (k : Nat) o, w.heap[k]? = some o → o.isCells = true → w'.heap[k]? = some o) → LeavesInM F n P fn tmps R [] .returning w') → LeavesInM F n P fn tmps R (Ds.map mkD) .returning w := by
  intro Ds
  induction Ds with
  | nil => intro w h0 hM h; exact h w (Below.refl _ _) (fun _ _ hk _ => hk)
  | cons D Ds ih =>
    intro w h0 hM h
    obtain ⟨hD1, hD2⟩ := hM.at_ D (by simp)
    obtain ⟨hn1, hn2⟩ := List.nodup_cons.1 hM.nd
    have hb : Below n0 w (w.putObj D (.deferred none)) := (Below.refl n0 w).grown (grownBy_putObj' w D _) h0 (fun k e => by cases e; exact hD1)
    refine ⟨by simp, .inl ⟨D, w.putObj D (.deferred none), rfl, run_takeDeferred hD2, ih _ (by simpa using h0) ⟨hn2, fun D' hD' => ?_⟩ (fun w' hb' hk' => h w' (hb.trans hb') (fun k o hk ho => hk' k o ?_ ho))⟩⟩
    · obtain ⟨h3, h4⟩ := hM.at_ D' (by simp [hD'])
      exact ⟨h3, (World.putObj_heap_other (fun e => hn1 (by rw [← e]; exact hD'))).trans h4⟩
    · refine (World.putObj_heap_other (fun e => ?_)).trans hk
      subst e
      rw [hD2] at hk
      cases hk
      cases ho
theorem make_prows (w : World) (n : Nat) (hn : n ≤ 1000000) : (Instr.makeSlice 76 (.int .i64 (n : Int)) (.int .i64 (n : Int))).run Tryd.prog w =
    .ok (.slice (some ⟨w.heap.size, 0, none⟩) n n) (w.alloc (.cells (List.replicate n (Value.slice none 0 0)).toArray 38)) := by
  have infoPr : (Tryd.prog.info? 38).map (fun i => (i.zero, i.size, i.bytes)) = some (some (.slice none 0 0), 1, 24) := by kernel_rfl
  obtain ⟨i0, hi, hz0, hz1, hz2⟩ := info_parts infoPr
  have h := run_make (P := Tryd.prog) w 76 38 i0 _ Tryd.underlying76 hi hz0 .i64 .i64 (n : Int) (n : Int) (by omega) (Int.le_refl _) (by rw [hz2]; omega) (by omega)
  rw [h, hz1]
  have e : madeCells (Value.slice none 0 0).cells (n * 1) = (List.replicate n (Value.slice none 0 0)).toArray := by
    rw [Nat.mul_one]
    apply Array.ext
    · simp [size_madeCells]
    · intro i h1 h2
      simp [madeCells, Value.cells, Nat.mod_one]
  simp only [Int.toNat_natCast]
  rw [e]
theorem POwn.start (w : World) (n : Nat) : POwn (w.alloc (.cells (List.replicate n (Value.slice none 0 0)).toArray 38)) w.heap.size w.heap.size (List.replicate n (Value.slice none 0 0)) (List.replicate n []) := by
  refine ⟨heap_alloc_new w _, Nat.le_refl _, by simp, fun j v X hv hX => ?_, fun j k v v' _ hv _ => ?_⟩
  · have hnl := (List.getElem?_eq_some_iff.1 hv).1
    rw [List.length_replicate] at hnl
    rw [List.getElem?_replicate, if_pos hnl] at hv hX
    have e := Option.some.inj hv
    have e' := Option.some.inj hX
    subst e e'
    exact World.ownsRow_nil _ _ _ _
  · have hnl := (List.getElem?_eq_some_iff.1 hv).1
    rw [List.length_replicate] at hnl
    rw [List.getElem?_replicate, if_pos hnl] at hv
    have e := Option.some.inj hv
    subst e
    exact .inl rfl
theorem POwn.alloc {w : World} {b0 G : Nat} {vals : List Value} {Xs : List (List Nat)} (h : POwn w b0 G vals Xs) (o : Obj) : POwn (w.alloc o) b0 G vals Xs :=
  h.keep (fun g o' _ hg _ => (Below.heap_alloc _ _ _ (Array.getElem?_eq_some_iff.1 hg).1).trans hg)

/-- What lies there while states are handed on. -/
structure RI (w : World) (n0 b7 B e N : Nat) (Xs : List (List Nat)) (Ds : List Nat) (W : World) : Prop where
  rows : ∃ vals, POwn W n0 n0 vals Xs ∧ ∀ v ∈ vals, ∀ k, v.ownBlock = some k → k < b7 ∨ b7 + 3 ≤ k
  box : Boxed W (n0 + 1) 76 (.slice (some ⟨n0, 0, none⟩) (N + 1) (N + 1))
  be : Boxed W b7 3 (.int .i64 (e : Int))
  bel : Below n0 w W
  mks : Marks n0 W Ds
  lt : ∀ D ∈ Ds, D < B
  sz : B ≤ W.heap.size
theorem RI.own {α : Type} (w : World) (n0 b7 B e N : Nat) (Xs : α → List (List Nat)) (Ds : List Nat) (hB : n0 ≤ B) : OwnFrom B (fun (a : α) W => RI w n0 b7 B e N (Xs a) Ds W) := by
  intro a W W' row h hg hr
  have hcell : ∀ (k : Nat) (o : Obj), W.heap[k]? = some o → o.isCells = true → W'.heap[k]? = some o := fun k o hk ho => (hg.block k (Array.getElem?_eq_some_iff.1 hk).1 (fun e => by
    obtain ⟨_, o', ho', hc⟩ := hr k e.symm
    rw [hk] at ho'
    cases ho'
    rw [ho] at hc
    cases hc)).trans hk
  obtain ⟨vals, hv, hv2⟩ := h.rows
  refine ⟨⟨vals, hv.keep (fun g o _ => hcell g o), hv2⟩, hcell _ _ h.box rfl, hcell _ _ h.be rfl, h.bel.grown hg ?_ (fun k e => ?_), ⟨h.mks.nd, fun D hD => ?_⟩, h.lt, ?_⟩
  · exact Nat.le_of_lt (Nat.lt_of_succ_lt h.box.lt)
  · exact Nat.le_trans hB (hr k e).1
  · obtain ⟨h1, h2⟩ := h.mks.at_ D hD
    refine ⟨h1, (hg.block D (Array.getElem?_eq_some_iff.1 h2).1 (fun e => ?_)).trans h2⟩
    have := (hr D e.symm).1
    have := h.lt D hD
    omega
  · exact Nat.le_trans h.sz hg.size
theorem RI.below {w W W' : World} {n0 b7 B e N : Nat} {Xs : List (List Nat)} {Ds : List Nat} (h : RI w n0 b7 B e N Xs Ds W) (hb : Below W.heap.size W W') : RI w n0 b7 B e N Xs Ds W' := by
  have hcell : ∀ (k : Nat) (o : Obj), W.heap[k]? = some o → W'.heap[k]? = some o := fun k o hk => (hb.block k (Array.getElem?_eq_some_iff.1 hk).1).trans hk
  obtain ⟨vals, hv, hv2⟩ := h.rows
  exact ⟨⟨vals, hv.keep (fun g o _ hg _ => hcell g o hg), hv2⟩, hcell _ _ h.box, hcell _ _ h.be, h.bel.trans (hb.mono (Nat.le_of_lt (Nat.lt_of_succ_lt h.box.lt))), ⟨h.mks.nd, fun D hD => ⟨(h.mks.at_ D hD).1, hcell _ _ (h.mks.at_ D hD).2⟩⟩, h.lt, Nat.le_trans h.sz hb.size⟩
/-- One more: the rules of a state, at the place where it begins. -/
theorem RI.add {w W : World} {n0 b7 B e N : Nat} {Xs : List (List Nat)} {Ds : List Nat} (h : RI w n0 b7 B e N Xs Ds W) (hw : w.heap.size = n0) (hb7 : b7 + 3 ≤ W.heap.size) (hb7n : n0 + 1 < b7) (hN : Xs.length = N + 1) {a : Nat} (ha : a ≤ N) {X : List Nat} (hX : Xs[a]? = some X) {u : Value} {ys : List Nat} (hu : NRuns W u ys) (hl : X.length + ys.length ≤ 10000000) :
    ∃ v A' m' c' w', W.cell? ⟨n0, a, none⟩ = some v ∧ (Builtin.append_ #[38, 38] 38 #[v, u]).run Tryd.prog W = .ok (.slice A' m' c') w' ∧ w'.cell? ⟨n0, a, none⟩ = some v ∧ w'.frozen? ⟨n0, a, none⟩ = false ∧
      w'.cell? ⟨n0 + 1, 0, none⟩ = some (.slice (some ⟨n0, 0, none⟩) (N + 1) (N + 1)) ∧ RI w n0 b7 B e N (Xs.set a (X ++ ys)) Ds (w'.setCell ⟨n0, a, none⟩ (.slice A' m' c')) ∧ KeepsOthers W (w'.setCell ⟨n0, a, none⟩ (.slice A' m' c')) ∧ Keep2 n0 (b7 + 1) W (w'.setCell ⟨n0, a, none⟩ (.slice A' m' c')) := by
  obtain ⟨vals, hv, hv2⟩ := h.rows
  have hlv : vals.length = N + 1 := by rw [← hv.lx, hN]
  obtain ⟨v, hva⟩ : ∃ v, vals[a]? = some v := ⟨_, List.getElem?_eq_getElem (by omega)⟩
  have hv7 := hv2 v (List.mem_of_getElem? hva)
  have hsz : n0 ≤ W.heap.size := Nat.le_of_lt (Nat.lt_of_succ_lt h.box.lt)
  obtain ⟨v', w', hrun, hc, hf, hP, hB, hK, hob, hkeep⟩ := hv.add hva hX hsz hu hl
  have ho := hv.own a v X hva hX
  have hne1 : v.ownBlock ≠ some (n0 + 1) := fun e2 => by
    rcases ho.2 with ⟨rfl, _⟩ | ⟨g, cap, cur, rfl, _, hg, _⟩
    · cases e2
    · have e3 : g = n0 + 1 := by simpa [Value.ownBlock] using e2
      subst e3
      have hbx := h.box
      unfold Boxed at hbx
      rw [hbx] at hg
      simp at hg
  have hne : ∀ k, b7 ≤ k → k < b7 + 3 → v.ownBlock ≠ some k := fun k h1 h2 e2 => by have := hv7 k e2; omega
  have hown' := hP.own a v' (X ++ ys) (List.getElem?_set_self (by omega)) (List.getElem?_set_self (by omega))
  obtain ⟨A', m', c', rfl⟩ : ∃ A' m' c', v' = .slice A' m' c' := by
    rcases hown'.2 with ⟨e2, _⟩ | ⟨g, cap, cur, e2, _⟩
    · exact ⟨_, _, _, e2⟩
    · exact ⟨_, _, _, e2⟩
  refine ⟨v, A', m', c', w', hv.cell hva, hrun, hc, hf, ?_, ⟨⟨_, hP, fun z hz => ?_⟩, ?_, ?_, h.bel.trans hB, ⟨h.mks.nd, fun D hD => ⟨(h.mks.at_ D hD).1, hK.same _ _ (h.mks.at_ D hD).2 rfl⟩⟩, h.lt, Nat.le_trans h.sz hK.size⟩, hK, hB, ?_, ?_⟩
  · rw [World.cell?_of_block (hkeep (n0 + 1) h.box.lt hne1).1]; exact h.box.cell
  · rcases List.mem_or_eq_of_mem_set hz with hz | rfl
    · exact hv2 z hz
    · intro k hk
      rcases hob with e2 | e2
      · rw [e2] at hk; exact hv7 k hk
      · rw [e2] at hk
        have := Option.some.inj hk
        omega
  · exact ((hkeep (n0 + 1) h.box.lt hne1).2 (by omega)).trans h.box
  · exact ((hkeep b7 h.be.lt (hne b7 (by omega) (by omega))).2 (by omega)).trans h.be
  · exact (hkeep (b7 + 1) (by omega) (hne _ (by omega) (by omega))).2 (by omega)
  · exact (hkeep (b7 + 2) (by omega) (hne _ (by omega) (by omega))).2 (by omega)

/-- append, as it is run, where a region draws within a fence. -/
theorem step_app_in {n : Nat} {P : Program} {ops : Array Oper} {o : Oper} {a : Act} {w : World} {K : Act → World → Prop} {Q : Exit → Act → World → Prop} {E : Prop} (hgd : o.guard = none) (s x : Operand) (t : TypeId) {v u v' : Value} {w' : World}
    (ho : o.op = .call { callee := .builtin .append, args := #[s, x], argTypes := #[t, t] }) (hrun : (Builtin.append_ #[t, t] o.type #[v, u]).run P w = .ok v' w') (hs : a.eval s = v) (hx : a.eval x = u)
    (h : K (a.put o.dst v') w') : if Region.wanted o (yielded ops a.tmps) = true then Oper.wpIn Fence.wide n P o a w K Q else E := by
  have hw : Region.wanted o (yielded ops a.tmps) = true := by simp [Region.wanted, hgd]
  rw [if_pos hw]
  refine ⟨fun _ _ => trivial, ?_⟩
  show Oper.uponIn Fence.wide n P o a K Q ((execOp a.eval o).run P w)
  have e : (execOp a.eval o).run P w = .ok (.value v') w' := by
    simp [execOp, ho, resolve, invoke, builtin, hs, hx, hrun, Result.andThen]
  rw [e]
  exact h

/-- What lies there as a place comes up. -/
structure PI (w : World) (n0 N : Nat) (F : List (List Int)) (l : List Int) (T : List (List Int)) (e k : Nat) (Ds : List Nat) (W : World) : Prop where
  rows : ∃ vals, POwn W n0 n0 vals ((List.range (N + 1)).map (accP F l e))
  box : Boxed W (n0 + 1) 76 (.slice (some ⟨n0, 0, none⟩) (N + 1) (N + 1))
  bel : Below n0 w W
  mks : Marks n0 W Ds
  st : T[k]? = some (lsuf (inT T) (l.take (e - 1)))

theorem flat_len {α : Type} (f : α → List Nat) (c : Nat) (h : ∀ x, (f x).length ≤ c) (l : List α) : (l.flatMap f).length ≤ l.length * c := by
  induction l with
  | nil => simp
  | cons a l ih =>
    rw [List.flatMap_cons, List.length_append, List.length_cons, Nat.succ_mul]
    have := h a
    omega
theorem accP_len (F : List (List Int)) (l : List Int) (e a : Nat) : (accP F l e a).length ≤ e * F.length := by
  have h := flat_len (fun k => idxP F F.length ((l.drop a).take k)) F.length (fun k => idxP_len _ _ _) (List.range (e - a))
  rw [List.length_range] at h
  exact Nat.le_trans h (Nat.mul_le_mul_right _ (Nat.sub_le _ _))
theorem atEnd_len (F : List (List Int)) (e a : Nat) (ps : List (List Int)) : (atEnd F e a ps).length ≤ ps.length * F.length := by
  have h := flat_len (idxP F F.length) F.length (fun k => idxP_len _ _ _) (ps.filter (fun p => e - p.length == a))
  exact Nat.le_trans h (Nat.mul_le_mul_right _ (List.length_filter_le _ _))
theorem at_set {T F : List (List Int)} {B : Nat} (l : List Int) (e N at_ : Nat) (pre : List (EI T B)) (x : EI T B) (h : e - x.val.length = at_) :
    ((List.range (N + 1)).map (fun a => accP F l e a ++ atEnd F e a (eiL pre))).set at_ (accP F l e at_ ++ atEnd F e at_ (eiL pre) ++ idxP F F.length x.val) = (List.range (N + 1)).map (fun a => accP F l e a ++ atEnd F e a (eiL (pre ++ [x]))) := by
  apply List.ext_getElem?
  intro j
  rw [List.getElem?_map]
  by_cases hj : j = at_
  · subst hj
    by_cases hl : j < N + 1
    · rw [List.getElem?_set_self (by simpa using hl), List.getElem?_range hl]
      simp [eiL_snoc, atEnd_snoc, h]
    · rw [List.getElem?_eq_none (by simp; omega), List.getElem?_eq_none (by simp; omega)]
      rfl
  · rw [List.getElem?_set_ne (Ne.symm hj), List.getElem?_map]
    by_cases hl : j < N + 1
    · rw [List.getElem?_range hl]
      have : ¬ e - x.val.length = j := fun e2 => hj (by omega)
      simp [eiL_snoc, atEnd_snoc, this]
    · rw [List.getElem?_eq_none (by simp; omega)]
      rfl
/-- What places hands out. -/
def PlacesPost (w : World) (n0 N : Nat) (F : List (List Int)) (l : List Int) (e : Ending) (w' : World) : Prop := ∃ vals, e = .returned (.slice (some ⟨n0, 0, none⟩) (N + 1) (N + 1)) ∧ POwn w' n0 n0 vals ((List.range (N + 1)).map (accP F l (N + 1))) ∧ Below n0 w w'

set_option maxRecDepth 100000 in
set_option maxHeartbeats 8000000 in
theorem places_any (w : World) (p c g mp : Nat) (A : Option Addr) (T F : List (List Int)) (hM : MachR w p A c g mp T (idxP F F.length)) (hF : F.length ≤ 4096) (hin : ∀ f ∈ F, f ∈ T) (v : Value) (l : List Int) (hv : Runs w v l) (hl : l.length ≤ 64) (hw : ∀ x ∈ l, Lib.validRune x = true) :
    Calls Tryd.prog 34 #[.pointer (some ⟨p, 0, none⟩), v] w (PlacesPost w w.heap.size l.length F l) := by
  obtain ⟨Al, cl, hvs⟩ : ∃ A c, v = .slice A l.length c := by
    obtain ⟨A, c, e, _⟩ := hv
    exact ⟨A, c, e⟩
  obtain ⟨N, hN⟩ : ∃ N, l.length = N := ⟨_, rfl⟩
  rw [hN] at hvs hl ⊢
  subst hvs
  have HM := Lib.hid hM; have HV := Lib.hid hv; have HN := Lib.hid hN; have HW := Lib.hid hw; have HIN := Lib.hid hin
  have hmk := make_prows w (N + 1) (by omega)
  have hP0 := POwn.start w (N + 1)
  obtain ⟨n₀, hn₀⟩ : ∃ z, w.heap.size = z := ⟨_, rfl⟩
  have HN0 := Lib.hid hn₀
  rw [hn₀] at hmk hP0 ⊢
  rw [show ((N + 1 : Nat) : Int) = (N : Int) + 1 by omega] at hmk
  obtain ⟨wa, hwa⟩ : ∃ z, w.alloc (.cells (List.replicate (N + 1) (Value.slice none 0 0)).toArray 38) = z := ⟨_, rfl⟩
  have hsa : wa.heap.size = n₀ + 1 := by rw [← hwa]; simp [hn₀]
  have hba : Below n₀ w wa := by rw [← hwa, ← hn₀]; exact (Below.refl _ _).alloc (Nat.le_refl _) _
  rw [hwa] at hmk hP0
  have HSA := Lib.hid hsa; have HBA := Lib.hid hba
  have hPz := Lib.hid hP0
  clear hM hv hN hw hn₀ hP0 hin hwa hsa hba
  refine (callsIn_wide (n := 6)).1 ?_
  refine callsIn_of_wp_marks Tryd.func34 rfl trivial ?_ rfl
  simp only [Tryd.ntmps34, List.size_toArray, List.length_cons, List.length_nil, Nat.reduceAdd, Nat.reduceSub, Array.replicate_succ, Array.replicate_zero, List.push_toArray, List.append_toArray, List.nil_append, List.cons_append]
  gi_wp2
  rw [HSA.out]
  have hP0 : Hid (PI w n₀ N F l T 0 0 [] (wa.alloc (.cells #[.slice (some ⟨n₀, 0, none⟩) (N + 1) (N + 1)] 76))) := Lib.hid ⟨⟨_, by
      have e : (List.range (N + 1)).map (accP F l 0) = List.replicate (N + 1) [] := by
        rw [show accP F l 0 = fun _ => [] from funext (accP_zero F l)]
        simp [List.map_const']
      rw [e]; exact hPz.out.alloc _⟩, by
        have := Boxed.new wa 76 (.slice (some ⟨n₀, 0, none⟩) (N + 1) (N + 1))
        rwa [HSA.out] at this, HBA.out.alloc (by have := HSA.out; omega) _, ⟨List.nodup_nil, fun D hD => by cases hD⟩, by
        rw [show l.take (0 - 1) = [] from List.take_zero]
        exact HM.out.ok.head⟩
  refine wpIn_loop (fun a' w' => ∃ (e k : Nat) (Ds : List Nat) (u7 u8 u9 u16 u17 u18 u19 u20 u21 u22 u23 u24 u25 u26 u27 u28 u29 u30 u31 u32 u33 u34 u35 u36 u37 u38 u39 u40 u41 u42 u43 u44 u45 u46 u47 u48 u49 u50 u51 u52 : Value), (e ≤ N + 1 ∧ u16 = .int .i64 (e : Int) ∧ Hid (PI w n₀ N F l T e k Ds w')) ∧ a' = { tmps := #[.pointer (some ⟨p, 0, none⟩), .slice Al N cl, undef, undef, .slice none 0 0, .pointer (some ⟨n₀ + 1, 0, none⟩), .int .i64 (k : Int), u7, u8, u9, .slice Al N cl, .int .i64 (N : Int), .int .i64 ((N : Int) + 1), .slice (some ⟨n₀, 0, none⟩) (N + 1) (N + 1), .slice (some ⟨n₀, 0, none⟩) (N + 1) (N + 1), .int .i64 ((N : Int) + 1), u16, u17, u18, u19, u20, u21, u22, u23, u24, u25, u26, u27, u28, u29, u30, u31, u32, u33, u34, u35, u36, u37, u38, u39, u40, u41, u42, u43, u44, u45, u46, u47, u48, u49, u50, u51, u52], defers := Ds.map mkD }) (fun a' _ => N + 1 - (intOf (a'.tmps.getD 16 undef)).toNat) ?_ ?_
  · exact ⟨0, 0, [], _, _, _, _, _, _, _, _, _, _, _, _, _, _, _, _, _, _, _, _, _, _, _, _, _, _, _, _, _, _, _, _, _, _, _, _, _, _, _, _, ⟨by omega, rfl, hP0⟩, rfl⟩
  clear hP0 hPz HBA HSA hmk
  rintro a' wr ⟨e, k, Ds, u7, u8, u9, u16, u17, u18, u19, u20, u21, u22, u23, u24, u25, u26, u27, u28, u29, u30, u31, u32, u33, u34, u35, u36, u37, u38, u39, u40, u41, u42, u43, u44, u45, u46, u47, u48, u49, u50, u51, u52, ⟨he, rfl, HP⟩, rfl⟩
  by_cases he2 : e < N + 1
  · have e1 : (e : Int) < (N : Int) + 1 := by omega
    refine wpIn_seq_k fun K1 hK1 => ?_
    have HK1 := Lib.hid hK1; clear hK1
    gi_wp2
    refine HK1.out _ _ ?_
    clear HK1
    refine wpIn_seq_k fun K2 hK2 => ?_
    have HK2 := Lib.hid hK2; clear hK2
    gi_wp2
    refine HK2.out _ _ ?_
    clear HK2
    refine wpIn_seq_k fun K3 hK3 => ?_
    have HK3 := Lib.hid hK3; clear hK3
    refine wpIn_block ?_
    refine wpIn_seq_k fun K4 hK4 => ?_
    have HK4 := Lib.hid hK4; clear hK4
    gi_wp2
    refine HK4.out _ _ ?_
    clear HK4
    have hsr : n₀ + 1 < wr.heap.size := HP.out.box.lt
    have hbb : Below wr.heap.size wr (wr.alloc (.cells #[.int .i64 (e : Int)] 3)) := (Below.refl _ _).alloc (Nat.le_refl _) _
    have bE := Boxed.new wr 3 (.int .i64 (e : Int))
    have hsb : (wr.alloc (.cells #[.int .i64 (e : Int)] 3)).heap.size = wr.heap.size + 1 := by simp
    obtain ⟨wb, hwb⟩ : ∃ z, wr.alloc (.cells #[.int .i64 (e : Int)] 3) = z := ⟨_, rfl⟩
    rw [hwb] at hbb bE hsb ⊢
    have hBW : Below n₀ w wb := HP.out.bel.trans (hbb.mono (by omega))
    have hMb : MachR wb p A c g mp T (idxP F F.length) := HM.out.below (by rw [HN0.out]; exact hBW)
    have hVb : Runs wb (.slice Al N cl) l := HV.out.below (by rw [HN0.out]; exact hBW)
    obtain ⟨b7, hb7⟩ : ∃ z, wr.heap.size = z := ⟨_, rfl⟩
    rw [hb7] at hsr bE hsb ⊢
    have hPb : Hid (∃ vals, POwn wb n₀ n₀ vals ((List.range (N + 1)).map (accP F l e)) ∧ ∀ v ∈ vals, ∀ q, v.ownBlock = some q → q < b7 ∨ b7 + 3 ≤ q) := Lib.hid (by
      obtain ⟨vals, hv⟩ := HP.out.rows
      refine ⟨vals, hv.keep (fun q o _ hq _ => (hbb.block q (Array.getElem?_eq_some_iff.1 hq).1).trans hq), fun z hz q hq => ?_⟩
      obtain ⟨j, hj, ej⟩ := List.getElem_of_mem hz
      have h1 : vals[j]? = some z := by rw [List.getElem?_eq_getElem hj, ej]
      have := own_lt' (hv.own j z _ h1 (List.getElem?_eq_getElem (by rw [hv.lx]; exact hj))) q hq
      left; omega)
    have hbx : Boxed wb (n₀ + 1) 76 (.slice (some ⟨n₀, 0, none⟩) (N + 1) (N + 1)) := (hbb.block _ HP.out.box.lt).trans HP.out.box
    have hmk : Marks n₀ wb Ds := ⟨HP.out.mks.nd, fun D hD => ⟨(HP.out.mks.at_ D hD).1, (hbb.block D (Array.getElem?_eq_some_iff.1 (HP.out.mks.at_ D hD).2).1).trans (HP.out.mks.at_ D hD).2⟩⟩
    have hlt : ∀ D ∈ Ds, D < b7 := fun D hD => by rw [← hb7]; exact (Array.getElem?_eq_some_iff.1 (HP.out.mks.at_ D hD).2).1
    have HST := Lib.hid HP.out.st
    have HBX := Lib.hid hbx; have HMK := Lib.hid hmk; have HLT := Lib.hid hlt; have HBE := Lib.hid bE; have HBW := Lib.hid hBW; have HMb := Lib.hid hMb; have HVb := Lib.hid hVb; have HSB := Lib.hid hsb
    clear hbx hmk hlt hBW hMb hVb hbb hwb hsb HP
    refine wpIn_seq_k fun K5 hK5 => ?_
    have hrest : ∀ (k' : Nat) (y17 y18 y19 y20 y21 y22 y23 y24 y25 y26 y27 y28 : Value), T[k']? = some (lsuf (inT T) (l.take e)) → K5 { tmps := #[.pointer (some ⟨p, 0, none⟩), .slice Al N cl, undef, undef, .slice none 0 0, .pointer (some ⟨n₀ + 1, 0, none⟩), .int .i64 (k' : Int), .pointer (some ⟨b7, 0, none⟩), u8, u9, .slice Al N cl, .int .i64 (N : Int), .int .i64 ((N : Int) + 1), .slice (some ⟨n₀, 0, none⟩) (N + 1) (N + 1), .slice (some ⟨n₀, 0, none⟩) (N + 1) (N + 1), .int .i64 ((N : Int) + 1), .int .i64 (e : Int), y17, y18, y19, y20, y21, y22, y23, y24, y25, y26, y27, y28, u29, u30, u31, u32, u33, u34, u35, u36, u37, u38, u39, u40, u41, u42, u43, u44, u45, u46, u47, u48, u49, u50, u51, u52], defers := Ds.map mkD } wb := by
      intro k' y17 y18 y19 y20 y21 y22 y23 y24 y25 y26 y27 y28 hk'
      refine hK5 _ _ ?_
      clear hK5
      have HK' := Lib.hid hk'
      clear hk' bE
      gi_wp2_with (refine ⟨trivial, ?_⟩; gi_at_call 57; refine (callsIn_wide.2 (endsFn_any p k' _)).mono ?_; rintro e w' ⟨rfl, rfl⟩)
      obtain ⟨W0, hW0⟩ : ∃ z, (wb.alloc (.cells #[.pointer (some ⟨p, 0, none⟩)] 25)).alloc (.cells #[.int .i64 (k' : Int)] 3) = z := ⟨_, rfl⟩
      have hb0 : Below wb.heap.size wb W0 := by rw [← hW0]; exact ((Below.refl _ _).alloc (Nat.le_refl _) _).alloc (by simp) _
      have bM : Boxed W0 (b7 + 1) 25 (.pointer (some ⟨p, 0, none⟩)) := by
        have := (Boxed.new wb 25 (.pointer (some ⟨p, 0, none⟩))).alloc (.cells #[.int .i64 (k' : Int)] 3)
        rwa [hW0, HSB.out] at this
      have bN : Boxed W0 (b7 + 2) 3 (.int .i64 (k' : Int)) := by
        have := Boxed.new (wb.alloc (.cells #[.pointer (some ⟨p, 0, none⟩)] 25)) 3 (.int .i64 (k' : Int))
        rwa [hW0, World.size_alloc, HSB.out] at this
      have hs0 : W0.heap.size = b7 + 3 := by rw [← hW0]; simp; have := HSB.out; omega
      rw [hW0, HSB.out, show b7 + 1 + 1 = b7 + 2 from rfl]
      have hBl : (lsuf (inT T) (l.take e)).length ≤ e := Nat.le_trans (lsuf_len _ _) (by rw [List.length_take]; omega)
      obtain ⟨s0, hs0'⟩ : ∃ z, lsuf (inT T) (l.take e) = z := ⟨_, rfl⟩
      rw [hs0'] at hBl
      have HK2' := HK'.out
      rw [hs0'] at HK2'
      obtain ⟨B, hB⟩ : ∃ B, s0.length = B := ⟨_, rfl⟩
      rw [hB] at hBl
      have hRI : RI w n₀ b7 W0.heap.size e N ((List.range (N + 1)).map (fun a => accP F l e a ++ atEnd F e a (eiL ([] : List (EI T B))))) Ds W0 := by
        obtain ⟨vals, hv, hv2⟩ := hPb.out
        refine ⟨⟨vals, ?_, hv2⟩, (hb0.block _ HBX.out.lt).trans HBX.out, (hb0.block _ HBE.out.lt).trans HBE.out, HBW.out.trans (hb0.mono (by have := HSB.out; omega)), ⟨HMK.out.nd, fun D hD => ⟨(HMK.out.at_ D hD).1, (hb0.block D (Array.getElem?_eq_some_iff.1 (HMK.out.at_ D hD).2).1).trans (HMK.out.at_ D hD).2⟩⟩, fun D hD => by have := HLT.out D hD; omega, Nat.le_refl _⟩
        have e4 : (List.range (N + 1)).map (fun a => accP F l e a ++ atEnd F e a (eiL ([] : List (EI T B)))) = (List.range (N + 1)).map (accP F l e) := by
          congr 1; funext a; simp [eiL, atEnd_nil]
        rw [e4]
        exact hv.keep (fun q o _ hq _ => (hb0.block q (Array.getElem?_eq_some_iff.1 hq).1).trans hq)
      have hBW0 : Below n₀ w W0 := hRI.bel
      clear hPb HBX HMK HBE HBW HMb HVb HST hb0
      have HS0' := Lib.hid hs0'
      refine wpIn_rangeFunc_ownG rfl (by decide) (gf := 73) (lb := #[.pointer (some ⟨b7 + 2, 0, none⟩), .pointer (some ⟨b7 + 1, 0, none⟩)]) rfl trivial (enters_of Tryd.func73 (by kernel_rfl) rfl)
        (ends_stops 5 (by decide) (b7 + 1) n₀ p c g mp k' A T F s0 B hB w HN0.out HM.out HK2' W0 (by omega) hBW0 (by omega) bM.cell bN.cell) Keep2.trans (keep2_b (by omega) (by omega)) (Below.refl _ _) (fun _ => rfl)
        (fun (pre : List (EI T B)) W => RI w n₀ b7 W0.heap.size e N ((List.range (N + 1)).map (fun a => accP F l e a ++ atEnd F e a (eiL pre))) Ds W)
        (fun _ _ _ => False)
        (RI.own w n₀ b7 W0.heap.size e N _ Ds (by omega)) (fun c => ownFrom_pure _ (fun _ => False)) hRI
        (fun x => { tmps := #[.pointer (some ⟨p, 0, none⟩), .slice Al N cl, undef, undef, .slice none 0 0, .pointer (some ⟨n₀ + 1, 0, none⟩), .int .i64 (k' : Int), .pointer (some ⟨b7, 0, none⟩), .pointer (some (adM p g (numT T x.val) 0)), u9, .slice Al N cl, .int .i64 (N : Int), .int .i64 ((N : Int) + 1), .slice (some ⟨n₀, 0, none⟩) (N + 1) (N + 1), .slice (some ⟨n₀, 0, none⟩) (N + 1) (N + 1), .int .i64 ((N : Int) + 1), .int .i64 (e : Int), y17, y18, y19, y20, y21, y22, y23, y24, y25, y26, y27, y28, .pointer (some ⟨p, 0, none⟩), .int .i64 (k' : Int), .func (.func 73) #[] #[.pointer (some ⟨b7 + 2, 0, none⟩), .pointer (some ⟨b7 + 1, 0, none⟩)], .pointer (some (adM p g (numT T x.val) 0)), u33, u34, u35, u36, u37, u38, u39, u40, u41, u42, u43, u44, u45, u46, u47, u48, u49, u50, u51, u52], defers := [] }) ?assign ?body ?done ?stop
      case assign =>
        intro l' x W K hK
        gi_wp2
        exact hK
      case body =>
        rintro l' pre x W hI hlt
        have hMW : MachR W p A c g mp T (idxP F F.length) := HM.out.below (by rw [HN0.out]; exact hI.bel)
        have hx := numT_at x.2.1
        obtain ⟨c0, _, rv, c2, c3⟩ := hMW.st _ _ hx
        obtain ⟨ab, ao, hab⟩ := adM_form p g (numT T x.val)
        rw [hab, Nat.add_zero] at c0
        rw [hab] at c2
        simp only [hab, Nat.add_zero]
        obtain ⟨xl, hxl⟩ : ∃ z, x.val.length = z := ⟨_, rfl⟩
        rw [hxl] at c0
        have hxe : xl ≤ e := by have := x.2.2; omega
        obtain ⟨at_, hat⟩ : ∃ z : Nat, (e : Int) - (xl : Int) = (z : Int) := ⟨e - xl, by omega⟩
        have hat2 : e - x.val.length = at_ := by omega
        have z7 := hI.be.cell
        have HI := Lib.hid hI; have HC3 := Lib.hid c3; have HX := Lib.hid hx; have HC2 := Lib.hid c2
        have HAT := Lib.hid hat2
        clear hMW hx c3 hI c2 hat2
        refine wpIn_block ?_
        refine wpIn_seq_k fun K10 hK10 => ?_
        have HK10 := Lib.hid hK10; clear hK10
        refine quiet_round (by kernel_rfl) (by kernel_rfl) (by kernel_rfl) ?_
        repeat (quiet_step_in (fail))
        refine wpQuietIn_nil ?_
        intro _ hw'
        obtain ⟨nq, hw''⟩ := hw'
        subst hw''
        refine HK10.out _ _ ?_
        clear HK10 z7 c0
        have hwr : IntKind.i64.wrap (at_ : Int) = (at_ : Int) := by rw [IntKind.wrap_i64]; omega
        rw [hwr]
        obtain ⟨W1, hW1⟩ : ∃ z, (W.drewN nq).drew = z := ⟨_, rfl⟩
        have hheap : W1.heap = W.heap := by rw [← hW1]; rfl
        have hbW : Below W.heap.size W W1 := by rw [← hW1]; exact (below_draws (Below.refl _ _) nq).drew
        have hI1 := HI.out.below hbW
        have hlen1 : (accP F l e at_ ++ atEnd F e at_ (eiL pre)).length + (idxP F F.length x.val).length ≤ 10000000 := by
          rw [List.length_append]
          have q1 := accP_len F l e at_
          have q2 := atEnd_len F e at_ (eiL pre)
          have q3 := idxP_len F F.length x.val
          rw [eiL_len] at q2
          have q4 : e * F.length ≤ 65 * 4096 := Nat.mul_le_mul (by omega) hF
          have q5 : pre.length * F.length ≤ 65 * 4096 := Nat.mul_le_mul (by omega) hF
          omega
        obtain ⟨v, A', m', c', w5, y1, hrun, y2, y3, y4, hR5, hK5, hP5⟩ := hI1.add HN0.out (by have := hI1.sz; omega) (by omega) (by simp) (a := at_) (by omega) (by rw [List.getElem?_map, List.getElem?_range (by omega)]; rfl) (HC3.out.below hbW) hlen1
        rw [at_set l e N at_ pre x HAT.out] at hR5
        have y5 := hI1.box.cell
        have y6 := (hbW.cell (mcell_lt HC2.out)).trans HC2.out
        obtain ⟨Ar, cr, er⟩ := GRuns.slice HC3.out
        subst er
        obtain ⟨q, hq⟩ : ∃ q, (idxP F F.length x.val).length = q := ⟨_, rfl⟩
        rw [hq] at hrun y6
        have hko : KeepsOthers W W1 := ⟨by rw [hheap]; exact Nat.le_refl _, fun k o h _ => by rw [hheap]; exact h⟩
        have HFIN : Hid (KeepsFrom W0.heap.size W (w5.setCell ⟨n₀, at_, none⟩ (.slice A' m' c')) ∧ Keep2 n₀ (b7 + 1) W (w5.setCell ⟨n₀, at_, none⟩ (.slice A' m' c')) ∧ RI w n₀ b7 W0.heap.size e N ((List.range (N + 1)).map (fun a => accP F l e a ++ atEnd F e a (eiL (pre ++ [x])))) Ds (w5.setCell ⟨n₀, at_, none⟩ (.slice A' m' c'))) := Lib.hid ⟨(hko.trans hK5).from _, (show Keep2 n₀ (b7 + 1) W W1 from ⟨hbW.mono (by have := HI.out.sz; omega), by rw [hheap], by rw [hheap]⟩).trans hP5, hR5⟩
        have HRUN := Lib.hid hrun
        have iN : (at_ : Int) < (N : Int) + 1 := by omega
        clear hI1 hlen1 hrun hR5 hK5 hP5 hko hq hbW hheap
        refine region_round (by kernel_rfl) (by kernel_rfl) ?_
        rw [hW1]
        clear hW1
        change wpAnyIn _ _ _ _ _ _ 13 _ _ _
        refine wpAnyIn_take (i := 1) (v := .int .i64 (at_ : Int)) rfl rfl (by kernel_rfl) (by kernel_rfl) (by kernel_rfl) (fun _ _ _ h => h) ⟨Or.inl ⟨by rfl, fun w => by go_simp⟩, fun _ => rfl⟩ ?_
        refine wpAnyIn_take (i := 3) (v := .int .i64 (at_ : Int)) rfl rfl (by kernel_rfl) (by kernel_rfl) (by kernel_rfl) (fun _ _ _ h => h) ⟨Or.inl ⟨by rfl, fun w => by go_simp⟩, fun _ => rfl⟩ ?_
        refine wpAnyIn_take (i := 6) (v := .pointer (some ⟨ab, ao, none⟩)) rfl rfl (by kernel_rfl) (by kernel_rfl) (by kernel_rfl) (fun _ _ _ h => h) ⟨Or.inl ⟨by rfl, fun w => by go_simp⟩, fun _ => rfl⟩ ?_
        refine wpAnyIn_take (i := 7) (v := .pointer (some ⟨ab, ao, none⟩)) rfl rfl (by kernel_rfl) (by kernel_rfl) (by kernel_rfl) (fun _ _ _ h => h) ⟨Or.inl ⟨by rfl, fun w => by go_simp⟩, fun _ => rfl⟩ ?_
        refine wpAnyIn_take (i := 8) (v := .pointer (some ⟨ab, ao + 2, none⟩)) rfl rfl (by kernel_rfl) (by kernel_rfl) (by kernel_rfl) (fun _ _ _ h => h) ⟨Or.inl ⟨by rfl, fun w => by go_simp⟩, fun _ => rfl⟩ ?_
        refine wpAnyIn_ready (rs := [0, 2, 9]) (by kernel_rfl) (by simp) ?_
        refine AllReadyIn.cons rfl (fun K hK => ?_) ?_
        · go_simp
          refine hK _ _ ?_
          clear hK K
          refine wpAnyIn_ready (rs := [2, 9]) (by kernel_rfl) (by simp) ?_
          refine AllReadyIn.cons rfl (fun K hK => ?_) ?_
          · go_simp
            refine hK _ _ ?_
            clear hK K
            refine wpAnyIn_take (i := 4) (v := .pointer (some ⟨n₀, at_, none⟩)) rfl rfl (by kernel_rfl) (by kernel_rfl) (by kernel_rfl) (fun _ _ _ h => h) ⟨Or.inl ⟨by rfl, fun w => by go_simp⟩, fun _ => rfl⟩ ?_
            refine wpAnyIn_ready (rs := [5, 9]) (by kernel_rfl) (by simp) ?_
            refine AllReadyIn.cons rfl (fun K hK => ?_) ?_
            · go_simp
              refine hK _ _ ?_
              clear hK K
              refine wpAnyIn_ready (rs := [9]) (by kernel_rfl) (by simp) ?_
              refine AllReadyIn.cons rfl (fun K hK => ?_) ?_
              · go_simp
                refine hK _ _ ?_
                clear hK K
                refine wpAnyIn_ready (rs := [10]) (by kernel_rfl) (by simp) ?_
                refine AllReadyIn.cons rfl (fun K hK => ?_) ?_
                · refine step_app_in rfl (.tmp 44) (.tmp 48) 38 rfl HRUN.out (by go_simp) (by go_simp) (hK _ _ ?_)
                  clear hK K
                  refine wpAnyIn_take (i := 11) (v := .pointer (some ⟨n₀, at_, none⟩)) rfl rfl (by kernel_rfl) (by kernel_rfl) (by kernel_rfl) (fun _ _ _ h => h) ⟨Or.inl ⟨by rfl, fun w => by go_simp⟩, fun _ => rfl⟩ ?_
                  refine wpAnyIn_ready (rs := [12]) (by kernel_rfl) (by simp) ?_
                  refine AllReadyIn.cons rfl (fun K hK => ?_) ?_
                  · go_simp
                    refine hK _ _ ?_
                    clear hK K
                    refine wpAnyIn_done (by kernel_rfl) ?_ _
                    exact HFIN.out
                  exact AllReadyIn.nil
                exact AllReadyIn.nil
              exact AllReadyIn.nil
            refine AllReadyIn.cons rfl (fun K hK => ?_) ?_
            · go_simp
              refine hK _ _ ?_
              clear hK K
              refine wpAnyIn_ready (rs := [5]) (by kernel_rfl) (by simp) ?_
              refine AllReadyIn.cons rfl (fun K hK => ?_) ?_
              · go_simp
                refine hK _ _ ?_
                clear hK K
                refine wpAnyIn_ready (rs := [10]) (by kernel_rfl) (by simp) ?_
                refine AllReadyIn.cons rfl (fun K hK => ?_) ?_
                · refine step_app_in rfl (.tmp 44) (.tmp 48) 38 rfl HRUN.out (by go_simp) (by go_simp) (hK _ _ ?_)
                  clear hK K
                  refine wpAnyIn_take (i := 11) (v := .pointer (some ⟨n₀, at_, none⟩)) rfl rfl (by kernel_rfl) (by kernel_rfl) (by kernel_rfl) (fun _ _ _ h => h) ⟨Or.inl ⟨by rfl, fun w => by go_simp⟩, fun _ => rfl⟩ ?_
                  refine wpAnyIn_ready (rs := [12]) (by kernel_rfl) (by simp) ?_
                  refine AllReadyIn.cons rfl (fun K hK => ?_) ?_
                  · go_simp
                    refine hK _ _ ?_
                    clear hK K
                    refine wpAnyIn_done (by kernel_rfl) ?_ _
                    exact HFIN.out
                  exact AllReadyIn.nil
                exact AllReadyIn.nil
              exact AllReadyIn.nil
            exact AllReadyIn.nil
          refine AllReadyIn.cons rfl (fun K hK => ?_) ?_
          · go_simp
            refine hK _ _ ?_
            clear hK K
            refine wpAnyIn_ready (rs := [2]) (by kernel_rfl) (by simp) ?_
            refine AllReadyIn.cons rfl (fun K hK => ?_) ?_
            · go_simp
              refine hK _ _ ?_
              clear hK K
              refine wpAnyIn_take (i := 4) (v := .pointer (some ⟨n₀, at_, none⟩)) rfl rfl (by kernel_rfl) (by kernel_rfl) (by kernel_rfl) (fun _ _ _ h => h) ⟨Or.inl ⟨by rfl, fun w => by go_simp⟩, fun _ => rfl⟩ ?_
              refine wpAnyIn_ready (rs := [5]) (by kernel_rfl) (by simp) ?_
              refine AllReadyIn.cons rfl (fun K hK => ?_) ?_
              · go_simp
                refine hK _ _ ?_
                clear hK K
                refine wpAnyIn_ready (rs := [10]) (by kernel_rfl) (by simp) ?_
                refine AllReadyIn.cons rfl (fun K hK => ?_) ?_
                · refine step_app_in rfl (.tmp 44) (.tmp 48) 38 rfl HRUN.out (by go_simp) (by go_simp) (hK _ _ ?_)
                  clear hK K
                  refine wpAnyIn_take (i := 11) (v := .pointer (some ⟨n₀, at_, none⟩)) rfl rfl (by kernel_rfl) (by kernel_rfl) (by kernel_rfl) (fun _ _ _ h => h) ⟨Or.inl ⟨by rfl, fun w => by go_simp⟩, fun _ => rfl⟩ ?_
                  refine wpAnyIn_ready (rs := [12]) (by kernel_rfl) (by simp) ?_
                  refine AllReadyIn.cons rfl (fun K hK => ?_) ?_
                  · go_simp
                    refine hK _ _ ?_
                    clear hK K
                    refine wpAnyIn_done (by kernel_rfl) ?_ _
                    exact HFIN.out
                  exact AllReadyIn.nil
                exact AllReadyIn.nil
              exact AllReadyIn.nil
            exact AllReadyIn.nil
          exact AllReadyIn.nil
        refine AllReadyIn.cons rfl (fun K hK => ?_) ?_
        · go_simp
          refine hK _ _ ?_
          clear hK K
          refine wpAnyIn_take (i := 4) (v := .pointer (some ⟨n₀, at_, none⟩)) rfl rfl (by kernel_rfl) (by kernel_rfl) (by kernel_rfl) (fun _ _ _ h => h) ⟨Or.inl ⟨by rfl, fun w => by go_simp⟩, fun _ => rfl⟩ ?_
          refine wpAnyIn_ready (rs := [0, 5, 9]) (by kernel_rfl) (by simp) ?_
          refine AllReadyIn.cons rfl (fun K hK => ?_) ?_
          · go_simp
            refine hK _ _ ?_
            clear hK K
            refine wpAnyIn_ready (rs := [5, 9]) (by kernel_rfl) (by simp) ?_
            refine AllReadyIn.cons rfl (fun K hK => ?_) ?_
            · go_simp
              refine hK _ _ ?_
              clear hK K
              refine wpAnyIn_ready (rs := [9]) (by kernel_rfl) (by simp) ?_
              refine AllReadyIn.cons rfl (fun K hK => ?_) ?_
              · go_simp
                refine hK _ _ ?_
                clear hK K
                refine wpAnyIn_ready (rs := [10]) (by kernel_rfl) (by simp) ?_
                refine AllReadyIn.cons rfl (fun K hK => ?_) ?_
                · refine step_app_in rfl (.tmp 44) (.tmp 48) 38 rfl HRUN.out (by go_simp) (by go_simp) (hK _ _ ?_)
                  clear hK K
                  refine wpAnyIn_take (i := 11) (v := .pointer (some ⟨n₀, at_, none⟩)) rfl rfl (by kernel_rfl) (by kernel_rfl) (by kernel_rfl) (fun _ _ _ h => h) ⟨Or.inl ⟨by rfl, fun w => by go_simp⟩, fun _ => rfl⟩ ?_
                  refine wpAnyIn_ready (rs := [12]) (by kernel_rfl) (by simp) ?_
                  refine AllReadyIn.cons rfl (fun K hK => ?_) ?_
                  · go_simp
                    refine hK _ _ ?_
                    clear hK K
                    refine wpAnyIn_done (by kernel_rfl) ?_ _
                    exact HFIN.out
                  exact AllReadyIn.nil
                exact AllReadyIn.nil
              exact AllReadyIn.nil
            refine AllReadyIn.cons rfl (fun K hK => ?_) ?_
            · go_simp
              refine hK _ _ ?_
              clear hK K
              refine wpAnyIn_ready (rs := [5]) (by kernel_rfl) (by simp) ?_
              refine AllReadyIn.cons rfl (fun K hK => ?_) ?_
              · go_simp
                refine hK _ _ ?_
                clear hK K
                refine wpAnyIn_ready (rs := [10]) (by kernel_rfl) (by simp) ?_
                refine AllReadyIn.cons rfl (fun K hK => ?_) ?_
                · refine step_app_in rfl (.tmp 44) (.tmp 48) 38 rfl HRUN.out (by go_simp) (by go_simp) (hK _ _ ?_)
                  clear hK K
                  refine wpAnyIn_take (i := 11) (v := .pointer (some ⟨n₀, at_, none⟩)) rfl rfl (by kernel_rfl) (by kernel_rfl) (by kernel_rfl) (fun _ _ _ h => h) ⟨Or.inl ⟨by rfl, fun w => by go_simp⟩, fun _ => rfl⟩ ?_
                  refine wpAnyIn_ready (rs := [12]) (by kernel_rfl) (by simp) ?_
                  refine AllReadyIn.cons rfl (fun K hK => ?_) ?_
                  · go_simp
                    refine hK _ _ ?_
                    clear hK K
                    refine wpAnyIn_done (by kernel_rfl) ?_ _
                    exact HFIN.out
                  exact AllReadyIn.nil
                exact AllReadyIn.nil
              exact AllReadyIn.nil
            exact AllReadyIn.nil
          refine AllReadyIn.cons rfl (fun K hK => ?_) ?_
          · go_simp
            refine hK _ _ ?_
            clear hK K
            refine wpAnyIn_ready (rs := [0, 9]) (by kernel_rfl) (by simp) ?_
            refine AllReadyIn.cons rfl (fun K hK => ?_) ?_
            · go_simp
              refine hK _ _ ?_
              clear hK K
              refine wpAnyIn_ready (rs := [9]) (by kernel_rfl) (by simp) ?_
              refine AllReadyIn.cons rfl (fun K hK => ?_) ?_
              · go_simp
                refine hK _ _ ?_
                clear hK K
                refine wpAnyIn_ready (rs := [10]) (by kernel_rfl) (by simp) ?_
                refine AllReadyIn.cons rfl (fun K hK => ?_) ?_
                · refine step_app_in rfl (.tmp 44) (.tmp 48) 38 rfl HRUN.out (by go_simp) (by go_simp) (hK _ _ ?_)
                  clear hK K
                  refine wpAnyIn_take (i := 11) (v := .pointer (some ⟨n₀, at_, none⟩)) rfl rfl (by kernel_rfl) (by kernel_rfl) (by kernel_rfl) (fun _ _ _ h => h) ⟨Or.inl ⟨by rfl, fun w => by go_simp⟩, fun _ => rfl⟩ ?_
                  refine wpAnyIn_ready (rs := [12]) (by kernel_rfl) (by simp) ?_
                  refine AllReadyIn.cons rfl (fun K hK => ?_) ?_
                  · go_simp
                    refine hK _ _ ?_
                    clear hK K
                    refine wpAnyIn_done (by kernel_rfl) ?_ _
                    exact HFIN.out
                  exact AllReadyIn.nil
                exact AllReadyIn.nil
              exact AllReadyIn.nil
            refine AllReadyIn.cons rfl (fun K hK => ?_) ?_
            · go_simp
              refine hK _ _ ?_
              clear hK K
              refine wpAnyIn_ready (rs := [0, 10]) (by kernel_rfl) (by simp) ?_
              refine AllReadyIn.cons rfl (fun K hK => ?_) ?_
              · go_simp
                refine hK _ _ ?_
                clear hK K
                refine wpAnyIn_ready (rs := [10]) (by kernel_rfl) (by simp) ?_
                refine AllReadyIn.cons rfl (fun K hK => ?_) ?_
                · refine step_app_in rfl (.tmp 44) (.tmp 48) 38 rfl HRUN.out (by go_simp) (by go_simp) (hK _ _ ?_)
                  clear hK K
                  refine wpAnyIn_take (i := 11) (v := .pointer (some ⟨n₀, at_, none⟩)) rfl rfl (by kernel_rfl) (by kernel_rfl) (by kernel_rfl) (fun _ _ _ h => h) ⟨Or.inl ⟨by rfl, fun w => by go_simp⟩, fun _ => rfl⟩ ?_
                  refine wpAnyIn_ready (rs := [12]) (by kernel_rfl) (by simp) ?_
                  refine AllReadyIn.cons rfl (fun K hK => ?_) ?_
                  · go_simp
                    refine hK _ _ ?_
                    clear hK K
                    refine wpAnyIn_done (by kernel_rfl) ?_ _
                    exact HFIN.out
                  exact AllReadyIn.nil
                exact AllReadyIn.nil
              refine AllReadyIn.cons rfl (fun K hK => ?_) ?_
              · refine step_app_in rfl (.tmp 44) (.tmp 48) 38 rfl HRUN.out (by go_simp) (by go_simp) (hK _ _ ?_)
                clear hK K
                refine wpAnyIn_ready (rs := [0]) (by kernel_rfl) (by simp) ?_
                refine AllReadyIn.cons rfl (fun K hK => ?_) ?_
                · go_simp
                  refine hK _ _ ?_
                  clear hK K
                  refine wpAnyIn_take (i := 11) (v := .pointer (some ⟨n₀, at_, none⟩)) rfl rfl (by kernel_rfl) (by kernel_rfl) (by kernel_rfl) (fun _ _ _ h => h) ⟨Or.inl ⟨by rfl, fun w => by go_simp⟩, fun _ => rfl⟩ ?_
                  refine wpAnyIn_ready (rs := [12]) (by kernel_rfl) (by simp) ?_
                  refine AllReadyIn.cons rfl (fun K hK => ?_) ?_
                  · go_simp
                    refine hK _ _ ?_
                    clear hK K
                    refine wpAnyIn_done (by kernel_rfl) ?_ _
                    exact HFIN.out
                  exact AllReadyIn.nil
                exact AllReadyIn.nil
              exact AllReadyIn.nil
            exact AllReadyIn.nil
          refine AllReadyIn.cons rfl (fun K hK => ?_) ?_
          · go_simp
            refine hK _ _ ?_
            clear hK K
            refine wpAnyIn_ready (rs := [0, 5]) (by kernel_rfl) (by simp) ?_
            refine AllReadyIn.cons rfl (fun K hK => ?_) ?_
            · go_simp
              refine hK _ _ ?_
              clear hK K
              refine wpAnyIn_ready (rs := [5]) (by kernel_rfl) (by simp) ?_
              refine AllReadyIn.cons rfl (fun K hK => ?_) ?_
              · go_simp
                refine hK _ _ ?_
                clear hK K
                refine wpAnyIn_ready (rs := [10]) (by kernel_rfl) (by simp) ?_
                refine AllReadyIn.cons rfl (fun K hK => ?_) ?_
                · refine step_app_in rfl (.tmp 44) (.tmp 48) 38 rfl HRUN.out (by go_simp) (by go_simp) (hK _ _ ?_)
                  clear hK K
                  refine wpAnyIn_take (i := 11) (v := .pointer (some ⟨n₀, at_, none⟩)) rfl rfl (by kernel_rfl) (by kernel_rfl) (by kernel_rfl) (fun _ _ _ h => h) ⟨Or.inl ⟨by rfl, fun w => by go_simp⟩, fun _ => rfl⟩ ?_
                  refine wpAnyIn_ready (rs := [12]) (by kernel_rfl) (by simp) ?_
                  refine AllReadyIn.cons rfl (fun K hK => ?_) ?_
                  · go_simp
                    refine hK _ _ ?_
                    clear hK K
                    refine wpAnyIn_done (by kernel_rfl) ?_ _
                    exact HFIN.out
                  exact AllReadyIn.nil
                exact AllReadyIn.nil
              exact AllReadyIn.nil
            refine AllReadyIn.cons rfl (fun K hK => ?_) ?_
            · go_simp
              refine hK _ _ ?_
              clear hK K
              refine wpAnyIn_ready (rs := [0, 10]) (by kernel_rfl) (by simp) ?_
              refine AllReadyIn.cons rfl (fun K hK => ?_) ?_
              · go_simp
                refine hK _ _ ?_
                clear hK K
                refine wpAnyIn_ready (rs := [10]) (by kernel_rfl) (by simp) ?_
                refine AllReadyIn.cons rfl (fun K hK => ?_) ?_
                · refine step_app_in rfl (.tmp 44) (.tmp 48) 38 rfl HRUN.out (by go_simp) (by go_simp) (hK _ _ ?_)
                  clear hK K
                  refine wpAnyIn_take (i := 11) (v := .pointer (some ⟨n₀, at_, none⟩)) rfl rfl (by kernel_rfl) (by kernel_rfl) (by kernel_rfl) (fun _ _ _ h => h) ⟨Or.inl ⟨by rfl, fun w => by go_simp⟩, fun _ => rfl⟩ ?_
                  refine wpAnyIn_ready (rs := [12]) (by kernel_rfl) (by simp) ?_
                  refine AllReadyIn.cons rfl (fun K hK => ?_) ?_
                  · go_simp
                    refine hK _ _ ?_
                    clear hK K
                    refine wpAnyIn_done (by kernel_rfl) ?_ _
                    exact HFIN.out
                  exact AllReadyIn.nil
                exact AllReadyIn.nil
              refine AllReadyIn.cons rfl (fun K hK => ?_) ?_
              · refine step_app_in rfl (.tmp 44) (.tmp 48) 38 rfl HRUN.out (by go_simp) (by go_simp) (hK _ _ ?_)
                clear hK K
                refine wpAnyIn_ready (rs := [0]) (by kernel_rfl) (by simp) ?_
                refine AllReadyIn.cons rfl (fun K hK => ?_) ?_
                · go_simp
                  refine hK _ _ ?_
                  clear hK K
                  refine wpAnyIn_take (i := 11) (v := .pointer (some ⟨n₀, at_, none⟩)) rfl rfl (by kernel_rfl) (by kernel_rfl) (by kernel_rfl) (fun _ _ _ h => h) ⟨Or.inl ⟨by rfl, fun w => by go_simp⟩, fun _ => rfl⟩ ?_
                  refine wpAnyIn_ready (rs := [12]) (by kernel_rfl) (by simp) ?_
                  refine AllReadyIn.cons rfl (fun K hK => ?_) ?_
                  · go_simp
                    refine hK _ _ ?_
                    clear hK K
                    refine wpAnyIn_done (by kernel_rfl) ?_ _
                    exact HFIN.out
                  exact AllReadyIn.nil
                exact AllReadyIn.nil
              exact AllReadyIn.nil
            exact AllReadyIn.nil
          exact AllReadyIn.nil
        refine AllReadyIn.cons rfl (fun K hK => ?_) ?_
        · go_simp
          refine hK _ _ ?_
          clear hK K
          refine wpAnyIn_ready (rs := [0, 2]) (by kernel_rfl) (by simp) ?_
          refine AllReadyIn.cons rfl (fun K hK => ?_) ?_
          · go_simp
            refine hK _ _ ?_
            clear hK K
            refine wpAnyIn_ready (rs := [2]) (by kernel_rfl) (by simp) ?_
            refine AllReadyIn.cons rfl (fun K hK => ?_) ?_
            · go_simp
              refine hK _ _ ?_
              clear hK K
              refine wpAnyIn_take (i := 4) (v := .pointer (some ⟨n₀, at_, none⟩)) rfl rfl (by kernel_rfl) (by kernel_rfl) (by kernel_rfl) (fun _ _ _ h => h) ⟨Or.inl ⟨by rfl, fun w => by go_simp⟩, fun _ => rfl⟩ ?_
              refine wpAnyIn_ready (rs := [5]) (by kernel_rfl) (by simp) ?_
              refine AllReadyIn.cons rfl (fun K hK => ?_) ?_
              · go_simp
                refine hK _ _ ?_
                clear hK K
                refine wpAnyIn_ready (rs := [10]) (by kernel_rfl) (by simp) ?_
                refine AllReadyIn.cons rfl (fun K hK => ?_) ?_
                · refine step_app_in rfl (.tmp 44) (.tmp 48) 38 rfl HRUN.out (by go_simp) (by go_simp) (hK _ _ ?_)
                  clear hK K
                  refine wpAnyIn_take (i := 11) (v := .pointer (some ⟨n₀, at_, none⟩)) rfl rfl (by kernel_rfl) (by kernel_rfl) (by kernel_rfl) (fun _ _ _ h => h) ⟨Or.inl ⟨by rfl, fun w => by go_simp⟩, fun _ => rfl⟩ ?_
                  refine wpAnyIn_ready (rs := [12]) (by kernel_rfl) (by simp) ?_
                  refine AllReadyIn.cons rfl (fun K hK => ?_) ?_
                  · go_simp
                    refine hK _ _ ?_
                    clear hK K
                    refine wpAnyIn_done (by kernel_rfl) ?_ _
                    exact HFIN.out
                  exact AllReadyIn.nil
                exact AllReadyIn.nil
              exact AllReadyIn.nil
            exact AllReadyIn.nil
          refine AllReadyIn.cons rfl (fun K hK => ?_) ?_
          · go_simp
            refine hK _ _ ?_
            clear hK K
            refine wpAnyIn_take (i := 4) (v := .pointer (some ⟨n₀, at_, none⟩)) rfl rfl (by kernel_rfl) (by kernel_rfl) (by kernel_rfl) (fun _ _ _ h => h) ⟨Or.inl ⟨by rfl, fun w => by go_simp⟩, fun _ => rfl⟩ ?_
            refine wpAnyIn_ready (rs := [0, 5]) (by kernel_rfl) (by simp) ?_
            refine AllReadyIn.cons rfl (fun K hK => ?_) ?_
            · go_simp
              refine hK _ _ ?_
              clear hK K
              refine wpAnyIn_ready (rs := [5]) (by kernel_rfl) (by simp) ?_
              refine AllReadyIn.cons rfl (fun K hK => ?_) ?_
              · go_simp
                refine hK _ _ ?_
                clear hK K
                refine wpAnyIn_ready (rs := [10]) (by kernel_rfl) (by simp) ?_
                refine AllReadyIn.cons rfl (fun K hK => ?_) ?_
                · refine step_app_in rfl (.tmp 44) (.tmp 48) 38 rfl HRUN.out (by go_simp) (by go_simp) (hK _ _ ?_)
                  clear hK K
                  refine wpAnyIn_take (i := 11) (v := .pointer (some ⟨n₀, at_, none⟩)) rfl rfl (by kernel_rfl) (by kernel_rfl) (by kernel_rfl) (fun _ _ _ h => h) ⟨Or.inl ⟨by rfl, fun w => by go_simp⟩, fun _ => rfl⟩ ?_
                  refine wpAnyIn_ready (rs := [12]) (by kernel_rfl) (by simp) ?_
                  refine AllReadyIn.cons rfl (fun K hK => ?_) ?_
                  · go_simp
                    refine hK _ _ ?_
                    clear hK K
                    refine wpAnyIn_done (by kernel_rfl) ?_ _
                    exact HFIN.out
                  exact AllReadyIn.nil
                exact AllReadyIn.nil
              exact AllReadyIn.nil
            refine AllReadyIn.cons rfl (fun K hK => ?_) ?_
            · go_simp
              refine hK _ _ ?_
              clear hK K
              refine wpAnyIn_ready (rs := [0, 10]) (by kernel_rfl) (by simp) ?_
              refine AllReadyIn.cons rfl (fun K hK => ?_) ?_
              · go_simp
                refine hK _ _ ?_
                clear hK K
                refine wpAnyIn_ready (rs := [10]) (by kernel_rfl) (by simp) ?_
                refine AllReadyIn.cons rfl (fun K hK => ?_) ?_
                · refine step_app_in rfl (.tmp 44) (.tmp 48) 38 rfl HRUN.out (by go_simp) (by go_simp) (hK _ _ ?_)
                  clear hK K
                  refine wpAnyIn_take (i := 11) (v := .pointer (some ⟨n₀, at_, none⟩)) rfl rfl (by kernel_rfl) (by kernel_rfl) (by kernel_rfl) (fun _ _ _ h => h) ⟨Or.inl ⟨by rfl, fun w => by go_simp⟩, fun _ => rfl⟩ ?_
                  refine wpAnyIn_ready (rs := [12]) (by kernel_rfl) (by simp) ?_
                  refine AllReadyIn.cons rfl (fun K hK => ?_) ?_
                  · go_simp
                    refine hK _ _ ?_
                    clear hK K
                    refine wpAnyIn_done (by kernel_rfl) ?_ _
                    exact HFIN.out
                  exact AllReadyIn.nil
                exact AllReadyIn.nil
              refine AllReadyIn.cons rfl (fun K hK => ?_) ?_
              · refine step_app_in rfl (.tmp 44) (.tmp 48) 38 rfl HRUN.out (by go_simp) (by go_simp) (hK _ _ ?_)
                clear hK K
                refine wpAnyIn_ready (rs := [0]) (by kernel_rfl) (by simp) ?_
                refine AllReadyIn.cons rfl (fun K hK => ?_) ?_
                · go_simp
                  refine hK _ _ ?_
                  clear hK K
                  refine wpAnyIn_take (i := 11) (v := .pointer (some ⟨n₀, at_, none⟩)) rfl rfl (by kernel_rfl) (by kernel_rfl) (by kernel_rfl) (fun _ _ _ h => h) ⟨Or.inl ⟨by rfl, fun w => by go_simp⟩, fun _ => rfl⟩ ?_
                  refine wpAnyIn_ready (rs := [12]) (by kernel_rfl) (by simp) ?_
                  refine AllReadyIn.cons rfl (fun K hK => ?_) ?_
                  · go_simp
                    refine hK _ _ ?_
                    clear hK K
                    refine wpAnyIn_done (by kernel_rfl) ?_ _
                    exact HFIN.out
                  exact AllReadyIn.nil
                exact AllReadyIn.nil
              exact AllReadyIn.nil
            exact AllReadyIn.nil
          exact AllReadyIn.nil
        exact AllReadyIn.nil
      case done =>
        rintro D ys W hD hS hI hK
        have hPn : Hid (PI w n₀ N F l T (e + 1) k' (D :: Ds) W) := Lib.hid (by
          obtain ⟨vals, hv, _⟩ := hI.rows
          refine ⟨⟨vals, ?_⟩, hI.box, hI.bel, ⟨List.nodup_cons.2 ⟨fun hm => by have := hI.lt D hm; omega, hI.mks.nd⟩, fun D' hD' => ?_⟩, ?_⟩
          · have e4 : (List.range (N + 1)).map (accP F l (e + 1)) = (List.range (N + 1)).map (fun a => accP F l e a ++ atEnd F e a (eiL ys)) := by
              congr 1; funext a
              rw [accP_step F HM.out.ok.in_nil (fun f hf => inT_mem.2 (HIN.out f hf)) (by rw [HN.out]; omega) a, HS0'.out, ← hS]
            rw [e4]; exact hv
          · rcases List.mem_cons.1 hD' with rfl | hD'
            · exact ⟨by omega, hK⟩
            · exact hI.mks.at_ D' hD'
          · rw [Nat.add_sub_cancel]; exact HK'.out)
        clear hI hS hK
        change K3 _ _
        refine HK3.out _ _ ?_
        gi_wp2
        exact ⟨⟨e + 1, k', D :: Ds, _, _, _, _, _, _, _, _, _, _, _, _, _, _, _, _, _, _, _, _, _, _, _, _, _, _, _, _, _, _, _, _, _, _, _, _, _, _, _, _, ⟨by omega, by go_num, hPn⟩, rfl⟩, by simp [intOf]; omega⟩
      case stop => exact fun D c pre W hD hp hF _ => hF.elim
    have HR := Lib.hid hrest
    clear hK5 hrest
    have z7 := bE.cell
    rcases Nat.eq_zero_or_pos e with e0 | e0
    · subst e0
      have hk0 : T[k]? = some (lsuf (inT T) (l.take 0)) := HST.out
      gi_wp2
      exact HR.out k _ _ _ _ _ _ _ _ _ _ _ _ hk0
    · have e2 : (0 : Int) < (e : Int) := by omega
      obtain ⟨e', he'⟩ : ∃ e' : Nat, (e : Int) - 1 = (e' : Int) := ⟨e - 1, by omega⟩
      have e3 : (e' : Int) < (N : Int) := by omega
      obtain ⟨bl, ol, rfl, _, hcl⟩ : ∃ b o, Al = some ⟨b, o, none⟩ ∧ b < wb.heap.size ∧ ∀ k, k < N → wb.cell? ⟨b, o + k, none⟩ = some (.int .i32 (l.getD k 0)) := by
        obtain ⟨A', c', e, _, _, hx⟩ := HVb.out
        rw [HN.out] at e hx
        obtain ⟨rfl, _, rfl⟩ := Value.slice.inj e
        exact hx (by omega)
      have z1 := hcl e' (by omega)
      obtain ⟨r, hr⟩ : ∃ r, l.getD e' 0 = r := ⟨_, rfl⟩
      rw [hr] at z1
      have hr2 : l[e']? = some r := by
        rw [List.getD_eq_getElem?_getD, List.getElem?_eq_getElem (by rw [HN.out]; omega)] at hr
        rw [List.getElem?_eq_getElem (by rw [HN.out]; omega)]
        simpa using hr
      have hst : lsuf (inT T) (l.take e) = lsuf (inT T) (lsuf (inT T) (l.take (e - 1)) ++ [r]) := by
        rw [← lsuf_step HM.out.ok.in_nil HM.out.ok.in_less, show e - 1 = e' by omega, show e = e' + 1 by omega, List.take_add_one, hr2]
        rfl
      have cs := step_any wb p c g mp k A T _ HMb.out _ r HST.out (rune_wf (HW.out r (List.mem_of_getElem? hr2)))
      rw [← hst] at cs
      have CS := Lib.hid cs
      clear hcl hr hr2 hst cs
      gi_wp2_with (refine ⟨trivial, ?_⟩; gi_at_call 56; refine (callsIn_wide.2 CS.out).mono ?_; rintro e w1 ⟨k2, rfl, hk2, rfl⟩)
      exact HR.out k2 _ _ _ _ _ _ _ _ _ _ _ _ hk2
  · obtain rfl : e = N + 1 := by omega
    have e1 : ¬ (((N + 1 : Nat) : Int)) < (N : Int) + 1 := by omega
    have hb := HP.out.box.cell
    have HE : Hid (∃ vals, POwn wr n₀ n₀ vals ((List.range (N + 1)).map (accP F l (N + 1)))) := Lib.hid HP.out.rows
    gi_wp2
    refine leaves_marks Ds wr (Nat.le_of_lt (Nat.lt_of_succ_lt HP.out.box.lt)) HP.out.mks (fun w' hb' hk' => ?_)
    refine ⟨_, results_tmp rfl _ _ _, ?_⟩
    obtain ⟨vals, hv⟩ := HE.out
    exact ⟨vals, rfl, hv.keep (fun q o _ hq ho => hk' q o hq ho), HP.out.bel.trans hb'⟩
end Go.Proofs.YtbbkkoeipkigdaaDoor

