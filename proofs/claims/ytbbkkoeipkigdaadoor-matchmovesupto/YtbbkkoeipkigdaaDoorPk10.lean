/- Texts that several proofs of this seat share, one behind the other: MRows MEnds MRound. -/
import Derived.Test.YtbbkkoeipkigdaaDoorPk9
import Derived.Test.YtbbkkoeipkigdaaDoorPk7
import Derived.Sort.QuietThIn
import Derived.Sort.QuietTacIn
/- A row of rows of numbers, all of the call's own: append of some numbers to one of them, stored where it lay. -/
namespace Go.Proofs.YtbbkkoeipkigdaaDoor
open Go.RowKit Go.Shelf
set_option linter.unusedSimpArgs false
set_option linter.unusedVariables false

theorem num_len (x : Nat) : (numCell x).length = 1 := rfl
/-- Rows of numbers in a row that lies at G. -/
structure POwn (w : World) (b0 G : Nat) (vals : List Value) (Xs : List (List Nat)) : Prop where
  row : w.heap[G]? = some (.cells vals.toArray 38 (0, 0))
  hb : b0 ≤ G
  lx : Xs.length = vals.length
  own : ∀ (j : Nat) v X, vals[j]? = some v → Xs[j]? = some X → w.ownsRow b0 3 1 v X.length (gCells numCell X)
  apart : ∀ (j k : Nat) v v', j ≠ k → vals[j]? = some v → vals[k]? = some v' → v.ownBlock = none ∨ v.ownBlock ≠ v'.ownBlock
theorem POwn.lt {w : World} {b0 G : Nat} {vals : List Value} {Xs : List (List Nat)} (h : POwn w b0 G vals Xs) : G < w.heap.size := (Array.getElem?_eq_some_iff.1 h.row).1
theorem POwn.cell {w : World} {b0 G : Nat} {vals : List Value} {Xs : List (List Nat)} (h : POwn w b0 G vals Xs) {j : Nat} {v : Value} (hv : vals[j]? = some v) : w.cell? ⟨G, j, none⟩ = some v := by
  rw [cell_of_row _ _ _ _ _ _ h.row]; simpa using hv
theorem POwn.thaw {w : World} {b0 G : Nat} {vals : List Value} {Xs : List (List Nat)} (h : POwn w b0 G vals Xs) (j : Nat) : w.frozen? ⟨G, j, none⟩ = false := by
  simp [World.frozen?, h.row]
theorem rows_apart {w : World} {b0 G n : Nat} {v : Value} {xs vals : List Value} (hr : w.heap[G]? = some (.cells vals.toArray 38 (0, 0))) (ho : w.ownsRow b0 3 1 v n xs) : v.ownBlock ≠ some G := by
  intro e
  rcases ho.2 with ⟨rfl, _⟩ | ⟨g, cap, cur, rfl, _, hg, _⟩
  · cases e
  · have e2 : g = G := by simpa [Value.ownBlock] using e
    subst e2
    rw [hr] at hg
    simp at hg
/-- Where the cells from b0 on are the same, so are the rows. -/
theorem POwn.keep {w w' : World} {b0 G : Nat} {vals : List Value} {Xs : List (List Nat)} (h : POwn w b0 G vals Xs) (hk : ∀ (g : Nat) o, b0 ≤ g → w.heap[g]? = some o → o.isCells = true → w'.heap[g]? = some o) : POwn w' b0 G vals Xs := by
  refine ⟨hk G _ h.hb h.row rfl, h.hb, h.lx, fun j v X hv hX => ?_, h.apart⟩
  have ho := h.own j v X hv hX
  refine own_keep ho (fun g hg => ?_)
  rcases ho.2 with ⟨rfl, _⟩ | ⟨g', cap, cur, rfl, hb, hg', _⟩
  · cases hg
  · have e2 : g' = g := by simpa [Value.ownBlock] using hg
    subst e2
    rw [hg']
    exact hk g' _ hb hg' rfl
theorem POwn.add {w : World} {b0 G : Nat} {vals : List Value} {Xs : List (List Nat)} (h : POwn w b0 G vals Xs) {n : Nat} {v : Value} {X : List Nat} (hv : vals[n]? = some v) (hX : Xs[n]? = some X) (hb : b0 ≤ w.heap.size) {u : Value} {ys : List Nat} (hu : NRuns w u ys) (hl : X.length + ys.length ≤ 10000000) :
    ∃ v' w', (Builtin.append_ #[38, 38] 38 #[v, u]).run Tryd.prog w = .ok v' w' ∧ w'.cell? ⟨G, n, none⟩ = some v ∧ w'.frozen? ⟨G, n, none⟩ = false ∧
      POwn (w'.setCell ⟨G, n, none⟩ v') b0 G (vals.set n v') (Xs.set n (X ++ ys)) ∧ Below b0 w (w'.setCell ⟨G, n, none⟩ v') ∧ KeepsOthers w (w'.setCell ⟨G, n, none⟩ v') ∧ (v'.ownBlock = v.ownBlock ∨ v'.ownBlock = some w.heap.size) ∧ (∀ k, k < w.heap.size → v.ownBlock ≠ some k → w'.heap[k]? = w.heap[k]? ∧ (k ≠ G → (w'.setCell ⟨G, n, none⟩ v').heap[k]? = w.heap[k]?)) := by
  have ho := h.own n v X hv hX
  obtain ⟨v', w', hrun, hown, hgr, hob⟩ := append_many (P := Tryd.prog) (enc := numCell) (k := 1) (fun _ => rfl) num_one info_int8 rfl (by decide) (by decide) Tryd.underlying38 w b0 v X.length (gCells numCell X) ho u ys hu hb (by omega)
  have hnl : n < vals.length := (List.getElem?_eq_some_iff.1 hv).1
  have hGv : v.ownBlock ≠ some G := rows_apart h.row ho
  have hlt := h.lt
  have hrow' : w'.heap[G]? = some (.cells vals.toArray 38 (0, 0)) := (hgr.block G hlt (fun e => hGv e.symm)).trans h.row
  have hsz : (w'.setCell ⟨G, n, none⟩ v').heap.size = w'.heap.size := by
    show (w'.heap.modify _ _).size = _
    rw [Array.size_modify]
  obtain ⟨W, hW⟩ : ∃ W, w'.setCell ⟨G, n, none⟩ v' = W := ⟨_, rfl⟩
  have hWb : ∀ k, k ≠ G → W.heap[k]? = w'.heap[k]? := fun k hk => by rw [← hW]; exact Below.heap_setCell w' ⟨G, n, none⟩ _ k hk
  have hWo : ∀ {q : Nat} {z : Value} {xs : List Value}, w'.ownsRow b0 3 1 z q xs → W.ownsRow b0 3 1 z q xs := fun ho' => own_keep ho' (fun b hb' => hWb b (fun e => rows_apart hrow' ho' (by rw [hb', e])))
  have hap : ∀ (m : Nat) z, m ≠ n → vals[m]? = some z → z.ownBlock = none ∨ z.ownBlock ≠ v'.ownBlock := fun m z hm hz => by
    obtain ⟨Y, hY⟩ : ∃ Y, Xs[m]? = some Y := ⟨_, List.getElem?_eq_getElem (by rw [h.lx]; exact (List.getElem?_eq_some_iff.1 hz).1)⟩
    rcases hob with e | e
    · rw [e]; exact h.apart m n z v hm hz hv
    · rw [e]
      cases hzb : z.ownBlock with
      | none => exact .inl rfl
      | some b =>
        right
        intro e2
        have := own_lt' (h.own m z Y hz hY) b hzb
        have := Option.some.inj e2
        omega
  have hcells : ∀ (j : Nat) (o : Obj), v.ownBlock = some j → w.heap[j]? = some o → o.isCells = true := fun j o hj hjo => by
    rcases ho.2 with ⟨rfl, _⟩ | ⟨g, cap, cur, rfl, _, hg, _⟩
    · cases hj
    · have e2 : g = j := by simpa [Value.ownBlock] using hj
      subst e2
      rw [hg] at hjo
      cases hjo
      rfl
  refine ⟨v', w', hrun, by rw [cell_of_row _ _ _ _ _ _ hrow']; simpa using hv, by simp [World.frozen?, hrow'], ?_, ?_, (KeepsOthers.of_grownBy hgr hcells).trans (KeepsOthers.setCell _ _ _), hob, fun k hk hne => ⟨hgr.block k hk (fun e => hne e.symm), fun hkG => (Below.heap_setCell w' ⟨G, n, none⟩ _ k hkG).trans (hgr.block k hk (fun e => hne e.symm))⟩⟩
  · rw [hW]
    refine ⟨?_, h.hb, by simpa using h.lx, fun m z Y hz hY => ?_, fun j k z z' hjk hz hz' => ?_⟩
    · rw [← hW]
      obtain ⟨hlt', hk⟩ := Array.getElem?_eq_some_iff.1 hrow'
      show (w'.heap.modify G _)[G]? = _
      rw [Array.getElem?_eq_getElem (by rw [Array.size_modify]; exact hlt'), Array.getElem_modify_self, hk]
      simp
    · by_cases hmn : m = n
      · subst hmn
        rw [List.getElem?_set_self hnl] at hz
        rw [List.getElem?_set_self (by rw [h.lx]; exact hnl)] at hY
        have e1 := Option.some.inj hz
        have e2 := Option.some.inj hY
        subst e1 e2
        have := hWo hown
        rw [gCells_append]
        simpa using this
      · rw [List.getElem?_set_ne (fun e => hmn e.symm)] at hz hY
        exact hWo ((h.own m z Y hz hY).kept hgr (h.apart m n z v hmn hz hv))
    · by_cases hj : j = n
      · subst hj
        rw [List.getElem?_set_self hnl] at hz
        have e1 := Option.some.inj hz
        subst e1
        rw [List.getElem?_set_ne hjk] at hz'
        rcases hap k z' (Ne.symm hjk) hz' with e | e
        · rw [e]
          cases v'.ownBlock with
          | none => exact .inl rfl
          | some b => exact .inr (by simp)
        · exact .inr (fun e2 => e e2.symm)
      · rw [List.getElem?_set_ne (fun e => hj e.symm)] at hz
        by_cases hk : k = n
        · subst hk
          rw [List.getElem?_set_self hnl] at hz'
          have e1 := Option.some.inj hz'
          subst e1
          exact hap j z hj hz
        · rw [List.getElem?_set_ne (fun e => hk e.symm)] at hz'
          exact h.apart j k z z' hjk hz hz'
  · exact ((Below.refl b0 w).grown hgr hb (own_block ho)).setCell h.hb _
end Go.Proofs.YtbbkkoeipkigdaaDoor

/- match's ends: the states at which rows end, from one on the way back, handed on one by one. -/
namespace Go.Proofs.YtbbkkoeipkigdaaDoor
open Go.RowKit Go.Shelf
attribute [local go_sem] Oper.semAt_some
set_option linter.unusedSimpArgs false
set_option linter.unusedVariables false

theorem chain_fuel {m : List Int → Bool} : ∀ (d : Nat) (s : List Int), s.length < d → chain m d s = chain m (s.length + 1) s := by
  have key : ∀ (d d' : Nat) (s : List Int), s.length < d → s.length < d' → chain m d s = chain m d' s := by
    intro d
    induction d with
    | zero => intro d' s h; omega
    | succ d ih =>
      intro d' s h h'
      cases d' with
      | zero => omega
      | succ d' =>
        rw [chain, chain]
        by_cases e : s = []
        · rw [if_pos e, if_pos e]
        · rw [if_neg e, if_neg e]
          have := failP_len m e
          rw [ih d' _ (by omega) (by omega)]
  exact fun d s h => key d _ s h (by omega)
/-- What is handed on from a state: itself, if rows end there, and what is handed on from where it falls back to. -/
theorem endsP_step (F : List (List Int)) (m : List Int → Bool) (s : List Int) : endsP F m s = (if (idxP F F.length s).isEmpty then [] else [s]) ++ if s = [] then [] else endsP F m (failP m s) := by
  unfold endsP
  rw [chain, List.filter_cons]
  by_cases e : s = []
  · rw [if_pos e, if_pos e]
    cases (idxP F F.length s).isEmpty <;> simp
  · rw [if_neg e, if_neg e]
    have := failP_len m e
    rw [chain_fuel s.length (failP m s) (by omega)]
    cases (idxP F F.length s).isEmpty <;> simp
theorem endsP_mem {F : List (List Int)} {T : List (List Int)} (hT : TreeOk T) {s : List Int} (hs : s ∈ T) : ∀ p ∈ endsP F (inT T) s, p ∈ T ∧ p.length ≤ s.length := by
  intro p hp
  have h1 := (List.mem_filter.1 hp).1
  exact ⟨inT_mem.1 ((chain_mem hT.in_nil _ _ _ (by omega) (inT_mem.2 hs)).1 h1).2, (chain_down _ _).2 p h1⟩
/-- A state that is handed on. -/
abbrev EI (T : List (List Int)) (B : Nat) := { x : List Int // x ∈ T ∧ x.length ≤ B }
def eiL {T : List (List Int)} {B : Nat} (l : List (EI T B)) : List (List Int) := l.map (·.val)
theorem eiL_snoc {T : List (List Int)} {B : Nat} (l : List (EI T B)) (x : EI T B) : eiL (l ++ [x]) = eiL l ++ [x.val] := by simp [eiL]
theorem eiL_len {T : List (List Int)} {B : Nat} (l : List (EI T B)) : (eiL l).length = l.length := by simp [eiL]
/-- What a round keeps: all below n₀, and the two boxes. -/
def Keep2 (n₀ Bs : Nat) (W W' : World) : Prop := Below n₀ W W' ∧ W'.heap[Bs]? = W.heap[Bs]? ∧ W'.heap[Bs + 1]? = W.heap[Bs + 1]?
theorem Keep2.refl (n₀ Bs : Nat) (W : World) : Keep2 n₀ Bs W W := ⟨Below.refl _ _, rfl, rfl⟩
theorem Keep2.trans {n₀ Bs : Nat} {A B C : World} (h : Keep2 n₀ Bs A B) (k : Keep2 n₀ Bs B C) : Keep2 n₀ Bs A C := ⟨h.1.trans k.1, k.2.1.trans h.2.1, k.2.2.trans h.2.2⟩
theorem keep2_b {n₀ Bs : Nat} {w : World} (hn : n₀ ≤ w.heap.size) (hBs : Bs + 1 < w.heap.size) (W : World) (l : Nat) (o o' : Obj) (hl : w.heap.size ≤ l) (h : W.heap[l]? = some o) (h1 : o.isCells = false) (h2 : o.isWalk = false) : Keep2 n₀ Bs W (W.putObj l o') :=
  ⟨belowK_b hn W l o o' hl h h1 h2, World.putObj_heap_other (fun e => by omega), World.putObj_heap_other (fun e => by omega)⟩

set_option maxRecDepth 100000 in
set_option maxHeartbeats 8000000 in
theorem ends_in (n : Nat) (hn : 1 ≤ n) (l Bs n₀ : Nat) (p c g mp n0 : Nat) (A : Option Addr) (T F : List (List Int)) (s0 : List Int) (B : Nat) (hB : s0.length = B) (w0 : World) (hw0 : w0.heap.size = n₀) (hM : MachR w0 p A c g mp T (idxP F F.length)) (hs0 : T[n0]? = some s0) (J Jx : List (EI T B) → World → Prop)
    (W : World) (hJ : AbidesFrom W.heap.size J)
    (hY : ∀ pre x W1, J pre W1 → pre.length < B + 1 → YieldAt Fence.wide (n - 1) Tryd.prog l #[.pointer (some (adM p g (numT T x.val) 0))] W1 fun e W' =>
      (e = .returned (.bool true) ∧ J (pre ++ [x]) W' ∧ Keep2 n₀ Bs W1 W') ∨ (e = .returned (.bool false) ∧ Jx (pre ++ [x]) W'))
    (hn0 : n₀ ≤ W.heap.size) (hW0 : Below n₀ w0 W) (hBs : Bs + 1 < W.heap.size)
    (hc1 : W.cell? ⟨Bs, 0, none⟩ = some (.pointer (some ⟨p, 0, none⟩))) (hc2 : W.cell? ⟨Bs + 1, 0, none⟩ = some (.int .i64 (n0 : Int))) (h0 : J [] W) :
    CallsIn Fence.wide n Tryd.prog 73 #[.func (.yield l) #[] #[], .pointer (some ⟨Bs + 1, 0, none⟩), .pointer (some ⟨Bs, 0, none⟩)] W fun e W' => (∃ v, e = .returned v) ∧
      ((∃ ys, eiL ys = endsP F (inT T) s0 ∧ J ys W') ∨ (∃ pre, eiL pre <+: endsP F (inT T) s0 ∧ Jx pre W')) := by
  have HB := Lib.hid hB; have HM := Lib.hid hM; have HW0 := Lib.hid hw0
  obtain ⟨R0, hR0⟩ : ∃ R0, endsP F (inT T) s0 = R0 := ⟨_, rfl⟩
  have hmem := fun q hq => (endsP_mem (F := F) hM.ok (List.mem_of_getElem? hs0) q hq)
  rw [hR0] at hmem ⊢
  have HMEM := Lib.hid hmem
  have HR0 : Hid (R0 = eiL ([] : List (EI T B)) ++ endsP F (inT T) s0) := Lib.hid (by rw [← hR0]; rfl)
  have HS0 := Lib.hid hs0
  have hb00 : s0.length ≤ B := Nat.le_of_eq hB
  have HB00 := Lib.hid hb00
  clear hR0 hB hM hw0 hs0 hmem hb00
  refine callsIn_of_wp Tryd.func73 rfl trivial ?_ rfl
  simp only [Tryd.ntmps73, List.size_toArray, List.length_cons, List.length_nil, Nat.reduceAdd, Nat.reduceSub, Array.replicate_succ, Array.replicate_zero, List.push_toArray, List.append_toArray, List.nil_append, List.cons_append]
  gi_wp2
  gi_loopw [4] (fun s4 wr => ∃ (k : Nat) (s : List Int) (pre : List (EI T B)), s4 = .int .i64 (k : Int) ∧ Hid (T[k]? = some s) ∧ Hid (pre.length + s.length ≤ B) ∧ Hid (R0 = eiL pre ++ endsP F (inT T) s) ∧ J pre wr ∧ Keep2 n₀ Bs W wr)
    (fun s4 _ => ((T[(intOf s4).toNat]?).getD []).length)
  case atStart => exact ⟨n0, s0, [], rfl, HS0, Lib.hid (by simpa using HB00.out), HR0, h0, Keep2.refl _ _ _⟩
  case round =>
    clear HR0 h0 HS0 HB00
    obtain ⟨k, s, pre, rfl, HT, HL, HR, hJs, hKB⟩ := hrel
    have z1 : wr.cell? ⟨Bs, 0, none⟩ = some (.pointer (some ⟨p, 0, none⟩)) := (World.cell?_of_block hKB.2.1).trans hc1
    have z2 : wr.cell? ⟨Bs + 1, 0, none⟩ = some (.int .i64 (n0 : Int)) := (World.cell?_of_block hKB.2.2).trans hc2
    have BL : Below n₀ w0 wr := hW0.trans hKB.1
    have hMr : MachR wr p A c g mp T (idxP F F.length) := HM.out.below (HW0.out.symm ▸ BL)
    have hkl := (List.getElem?_eq_some_iff.1 HT.out).1
    have cst := fun W (h : MachR W p A c g mp T (idxP F F.length)) => state_any W p c g mp k A T _ h hkl
    obtain ⟨x0, x1, rv, x2, x3⟩ := hMr.st k s HT.out
    obtain ⟨ab, ao, hab⟩ := adM_form p g k
    have hnum := numT_of hMr.ok HT.out
    rw [hab] at x1 x2
    simp only [hab, Nat.add_zero] at cst
    have hst := endsP_step F (inT T) s
    obtain ⟨I, hI⟩ : ∃ z, idxP F F.length s = z := ⟨_, rfl⟩
    rw [hI] at hst x3
    obtain ⟨Ar, cr, er, _⟩ := x3
    subst er
    obtain ⟨q, hq⟩ : ∃ q, I.length = q := ⟨_, rfl⟩
    rw [hq] at x2
    have cst1 := cst wr hMr
    have CST1 := Lib.hid cst1; have CST := Lib.hid cst
    have HST := Lib.hid hst; have HMr := Lib.hid hMr
    have hfin : s ≠ [] → ∃ f : Nat, numT T (failP (inT T) s) = f ∧ T[f]? = some (failP (inT T) s) ∧ (failP (inT T) s).length < s.length := fun h => ⟨_, rfl, numT_at (fail_in HM.out.ok s), failP_len _ h⟩
    have HFIN := Lib.hid hfin
    have hnil : k = 0 ↔ s = [] := ⟨fun e => HM.out.ok.zero (by rw [← e]; exact HT.out), fun e => HM.out.ok.of_nil (by rw [← e]; exact HT.out)⟩
    have HNIL := Lib.hid hnil
    have HNUM := Lib.hid hnum; have HAB := Lib.hid hab
    have hsm : s ∈ T := List.mem_of_getElem? HT.out
    have hsl : s.length ≤ B := by have := HL.out; omega
    obtain ⟨X, hX⟩ : ∃ X : EI T B, X.val = s := ⟨⟨s, hsm, hsl⟩, rfl⟩
    have hlen1 : pre.length < B + 1 := by have := HL.out; omega
    clear cst cst1 hst hMr hfin hnil hnum hsm hsl BL x0
    by_cases hq0 : q = 0
    · subst hq0
      have HIe : Hid (I.isEmpty = true) := Lib.hid (by rw [List.eq_nil_of_length_eq_zero hq]; rfl)
      clear hq hI hX
      rcases Nat.eq_zero_or_pos k with hk0 | hk0
      · subst hk0
        have HE : Hid (eiL pre = R0) := Lib.hid (by rw [HR.out, HST.out, HIe.out, if_pos rfl, if_pos (HNIL.out.1 rfl)]; simp)
        change Hid (Calls Tryd.prog 29 #[.pointer (some ⟨p, 0, none⟩), .int .i64 0] wr _) at CST1
        gi_wp2_with (refine ⟨trivial, ?_⟩; gi_at_call 29; refine (callsIn_wide.2 CST1.out).mono ?_; rintro e w1 ⟨rfl, rfl⟩)
        refine ⟨fun _ _ => trivial, ?_⟩
        gi_wp2
        refine bodyPost_ret (results_none rfl _ _ _) rfl ?_
        exact ⟨⟨_, rfl⟩, .inl ⟨pre, HE.out, hJs⟩⟩
      · have hsn : s ≠ [] := fun e => by have := HNIL.out.2 e; omega
        obtain ⟨f, hf1, hf2, hf3⟩ := HFIN.out hsn
        rw [hf1] at x1
        have hkne : ((k : Int) == 0) = false := by simp; omega
        have HRn : Hid (R0 = eiL pre ++ endsP F (inT T) (failP (inT T) s)) := Lib.hid (by rw [HR.out, HST.out, HIe.out, if_pos rfl, if_neg hsn]; simp)
        have HF2 := Lib.hid hf2; have HF3 := Lib.hid hf3
        clear hf1 hf2 hf3 hsn
        gi_wp2_with (refine ⟨trivial, ?_⟩; gi_at_call 29; refine (callsIn_wide.2 CST1.out).mono ?_; rintro e w1 ⟨rfl, rfl⟩)
        refine ⟨fun _ _ => trivial, ?_⟩
        gi_wp2_with (refine ⟨trivial, ?_⟩; gi_at_call 29; refine (callsIn_wide.2 CST1.out).mono ?_; rintro e w1 ⟨rfl, rfl⟩)
        go_roundw
        case rel => exact ⟨f, _, pre, rfl, HF2, Lib.hid (by have := HL.out; have := HF3.out; omega), HRn, hJs, hKB⟩
        case measure =>
          simp only [intOf, Int.toNat_natCast]
          rw [HF2.out, HT.out]
          exact HF3.out
    · have hq1 : (0 : Int) < (q : Int) := by omega
      have HIe : Hid (I.isEmpty = false) := Lib.hid (by cases I with | nil => exact absurd hq.symm hq0 | cons a t => rfl)
      obtain ⟨fn, tmps, assign, body, hy, hR⟩ := hY pre X wr hJs hlen1
      rw [hX, HNUM.out, HAB.out, Nat.add_zero] at hy
      have HX := Lib.hid hX
      clear hq hI hX
      gi_wp2_with (refine ⟨trivial, ?_⟩; gi_at_call 29; refine (callsIn_wide.2 CST1.out).mono ?_; rintro e w1 ⟨rfl, rfl⟩)
      refine hR.mono ?_
      rintro e W3 (⟨rfl, hJ3, hk3⟩ | ⟨rfl, hJx3⟩)
      · have BL3 : Below n₀ w0 W3 := hW0.trans (hKB.1.trans hk3.1)
        have hM3 : MachR W3 p A c g mp T (idxP F F.length) := HM.out.below (HW0.out.symm ▸ BL3)
        obtain ⟨_, y1, _⟩ := hM3.st k s HT.out
        rw [HAB.out] at y1
        have HK3 := hKB.trans hk3
        have y2 : W3.cell? ⟨Bs, 0, none⟩ = some (.pointer (some ⟨p, 0, none⟩)) := (World.cell?_of_block HK3.2.1).trans hc1
        have CST3 := Lib.hid (CST.out W3 hM3)
        clear hM3 BL3
        rcases Nat.eq_zero_or_pos k with hk0 | hk0
        · subst hk0
          have HE : Hid (eiL (pre ++ [X]) = R0) := Lib.hid (by rw [HR.out, HST.out, HIe.out, if_neg (by simp), if_pos (HNIL.out.1 rfl), eiL_snoc, HX.out]; simp)
          gi_wp2
          refine bodyPost_ret (results_none rfl _ _ _) rfl ?_
          exact ⟨⟨_, rfl⟩, .inl ⟨pre ++ [X], HE.out, hJ3⟩⟩
        · have hsn : s ≠ [] := fun e => by have := HNIL.out.2 e; omega
          obtain ⟨f, hf1, hf2, hf3⟩ := HFIN.out hsn
          rw [hf1] at y1
          have hkne : ((k : Int) == 0) = false := by simp; omega
          have HRn : Hid (R0 = eiL (pre ++ [X]) ++ endsP F (inT T) (failP (inT T) s)) := Lib.hid (by rw [HR.out, HST.out, HIe.out, if_neg (by simp), if_neg hsn, eiL_snoc, HX.out]; simp)
          have HF2 := Lib.hid hf2; have HF3 := Lib.hid hf3
          clear hf1 hf2 hf3 hsn
          gi_wp2_with (refine ⟨trivial, ?_⟩; gi_at_call 29; refine (callsIn_wide.2 CST3.out).mono ?_; rintro e w1 ⟨rfl, rfl⟩)
          go_roundw
          case rel => exact ⟨f, _, pre ++ [X], rfl, HF2, Lib.hid (by have := HL.out; have := HF3.out; simp; omega), HRn, hJ3, HK3⟩
          case measure =>
            simp only [intOf, Int.toNat_natCast]
            rw [HF2.out, HT.out]
            exact HF3.out
      · have HP : Hid (eiL (pre ++ [X]) <+: R0) := Lib.hid (by rw [HR.out, HST.out, HIe.out, if_neg (by simp), eiL_snoc, HX.out, ← List.append_assoc]; exact List.prefix_append _ _)
        gi_wp2
        refine bodyPost_ret (results_none rfl _ _ _) rfl ?_
        exact ⟨⟨_, rfl⟩, .inr ⟨pre ++ [X], HP.out, hJx3⟩⟩

theorem endsFn_any (p n0 : Nat) (w : World) :
    Calls Tryd.prog 57 #[.pointer (some ⟨p, 0, none⟩), .int .i64 (n0 : Int)] w fun e w' => e = .returned (.func (.func 73) #[] #[.pointer (some ⟨w.heap.size + 1, 0, none⟩), .pointer (some ⟨w.heap.size, 0, none⟩)]) ∧ w' = (w.alloc (.cells #[.pointer (some ⟨p, 0, none⟩)] 25)).alloc (.cells #[.int .i64 (n0 : Int)] 3) := by
  go_enter Tryd.func57, Tryd.ntmps57
  go_wp2
  go_ret
  exact ⟨by simp, rfl⟩
theorem ends_stops (n : Nat) (hn : 1 ≤ n) (Bs n₀ : Nat) (p c g mp n0 : Nat) (A : Option Addr) (T F : List (List Int)) (s0 : List Int) (B : Nat) (hB : s0.length = B) (w0 : World) (hw0 : w0.heap.size = n₀) (hM : MachR w0 p A c g mp T (idxP F F.length)) (hs0 : T[n0]? = some s0)
    (w : World) (hn0 : n₀ ≤ w.heap.size) (hW0 : Below n₀ w0 w) (hBs : Bs + 1 < w.heap.size) (hc1 : w.cell? ⟨Bs, 0, none⟩ = some (.pointer (some ⟨p, 0, none⟩))) (hc2 : w.cell? ⟨Bs + 1, 0, none⟩ = some (.int .i64 (n0 : Int))) :
    SeqStopsK Fence.wide n Tryd.prog 73 #[.pointer (some ⟨Bs + 1, 0, none⟩), .pointer (some ⟨Bs, 0, none⟩)] (fun x : EI T B => #[.pointer (some (adM p g (numT T x.val) 0))]) (Keep2 n₀ Bs) (fun ys => eiL ys = endsP F (inT T) s0) (fun pre => eiL pre <+: endsP F (inT T) s0) (B + 1) w :=
  fun l J Jx W hW hJ _ hY h0 => ends_in n hn l Bs n₀ p c g mp n0 A T F s0 B hB w0 hw0 hM hs0 J Jx W hJ hY (Nat.le_trans hn0 hW.size) (hW0.trans (hW.mono hn0)) (Nat.lt_of_lt_of_le hBs hW.size) ((hW.cell (p := ⟨Bs, 0, none⟩) (Nat.lt_of_succ_lt hBs)).trans hc1) ((hW.cell (p := ⟨Bs + 1, 0, none⟩) hBs).trans hc2) h0
end Go.Proofs.YtbbkkoeipkigdaaDoor

/- Regions that draw their order, within a round of a range over a function: as outside of one, where nothing is deferred. -/
namespace Go.Proofs.YtbbkkoeipkigdaaDoor
open Go.RowKit Go.Shelf
set_option linter.unusedSimpArgs false
set_option linter.unusedVariables false

def noDefer (ops : Array Oper) : Bool := ops.all (fun o => match o.op with | .defer _ => false | _ => true)
theorem noDefer_spec {ops : Array Oper} (h : noDefer ops = true) {i : Nat} {o : Oper} (hi : ops[i]? = some o) : ∀ c, o.op ≠ .defer c := by
  intro c e
  obtain ⟨hlt, hk⟩ := Array.getElem?_eq_some_iff.1 hi
  have := Array.all_eq_true.1 h i hlt
  rw [hk, e] at this
  cases this
theorem upon_round {l n : Nat} {P : Program} {o : Oper} {a : Act} {K : Act → World → Prop} {Q : Exit → Act → World → Prop} (r : Result Next) (h : o.uponIn Fence.wide n P a K Q r) : o.uponIn (Fence.wide.inRound l) n P a K Q r := by
  cases r with
  | ok x w' => cases x <;> exact h
  | halt x w' => cases x <;> exact h
theorem any_round {l n : Nat} {P : Program} {md : Region.Mode} {ops : Array Oper} {Q : Exit → Act → World → Prop} (hd : noDefer ops = true) :
    ∀ (fuel : Nat) (listed : Array Bool) (a : Act) (w : World), wpAnyIn Fence.wide n P md ops Q fuel listed a w → wpAnyIn (Fence.wide.inRound l) n P md ops Q fuel listed a w := by
  intro fuel
  induction fuel with
  | zero => intro listed a w h; exact h
  | succ fuel ih =>
    intro listed a w h
    refine ⟨h.1, fun i hi => ?_⟩
    have h1 := wpOpIn_mono (fun a' w' => ih (listed.setIfInBounds i true) a' w') (h.2 i hi)
    unfold wpOpIn at h1 ⊢
    split
    · rename_i ho; simp only [ho] at h1; exact h1
    · rename_i o ho
      simp only [ho] at h1
      split
      · rename_i hw
        simp only [hw, if_true] at h1
        have e : ∀ ro, o.semAt ro a.eval = execOp a.eval o := fun ro => Oper.semAt_eq ro _ _ (noDefer_spec hd ho)
        refine ⟨h1.1, ?_⟩
        have h2 := h1.2
        rw [e] at h2 ⊢
        exact upon_round _ h2
      · rename_i hw
        simp only [hw] at h1
        exact h1
theorem region_round {l n id : Nat} {P : Program} {ops : Array Oper} {Q : Exit → Act → World → Prop} {a : Act} {w : World} (hm : P.follows .mixedOrders = true) (hd : noDefer ops = true)
    (h : wpAnyIn Fence.wide n P .any ops Q ops.size (Array.replicate ops.size false) a w.drew) : (Code.region id ops true).wpIn (Fence.wide.inRound l) n P Q a w :=
  wpIn_region_any hm (any_round hd _ _ _ _ h)
theorem quiet_round {lp n id : Nat} {P : Program} {Q : Exit → Act → World → Prop} {a : Act} {w : World} {l : List Oper} (hm : P.follows .mixedOrders = true) (hd : noDefer l.toArray = true) (hB : Region.lexB .any l.toArray = true)
    (h : wpQuietIn Fence.wide n P l.toArray (fun w' => ∃ n, w' = w.drewN n) (fun a' => ∀ w', (∃ n, w' = w.drewN n) → Q .normal a' w') l a) : (Code.region id l.toArray true).wpIn (Fence.wide.inRound lp) n P Q a w := by
  simp only [Region.lexB, Bool.and_eq_true] at hB
  refine region_round hm hd (wpAnyIn_of_quiet (Q := fun a' => ∀ w', (∃ n, w' = w.drewN n) → Q .normal a' w') rfl (fun _ w' hw' h => h w' hw') _ _ _ _ ⟨1, by rfl⟩ ?_)
  have := wpAnyQIn_lex (F := Fence.wide) (n := n) (C := fun w' => ∃ n, w' = w.drewN n) (md := .any) hB.1 l 0 (Array.replicate l.toArray.size false) a (by simp) (by simpa using hB.2) h
  simpa using this
theorem any_memo {F : Fence} {n : Nat} {P : Program} {md : Region.Mode} {ops : Array Oper} {Q : Exit → Act → World → Prop} {fuel : Nat} {listed : Array Bool} {a : Act} {w : World}
    (h : ∀ C : Nat → Array Bool → Act → World → Prop, (∀ f l a w, C f l a w ↔ wpAnyIn F n P md ops Q f l a w) → C fuel listed a w) : wpAnyIn F n P md ops Q fuel listed a w :=
  h _ (fun _ _ _ _ => Iff.rfl)
end Go.Proofs.YtbbkkoeipkigdaaDoor

