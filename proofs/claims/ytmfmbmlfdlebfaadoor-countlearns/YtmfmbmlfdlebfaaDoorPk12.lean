/- Texts that several proofs of this seat share, one behind the other: HRng TSeq HRows HBlocks HSeq HOf HLong BOf2. -/
import Derived.Test.YtmfmbmlfdlebfaaDoorPk8
import Derived.RangeFuncNested
import Derived.RangeFuncLeaves
import Derived.Test.YtmfmbmlfdlebfaaDoorPk2
import Derived.WalkMore
import Derived.BigRegion
import Derived.Test.YtmfmbmlfdlebfaaDoorPk7
import Derived.Test.YtmfmbmlfdlebfaaDoorPk9
/- The ranges of the longest rows of steps that aren't matches, plain. -/
namespace Go.Proofs.YtmfmbmlfdlebfaaDoor
open Go.RowKit Go.Shelf

/-- The ranges of rows: f where the row under way began, k where the rest begins. -/
def rng (f k : Nat) : List St → List (Nat × Nat)
  | [] => if f < k then [(f, k)] else []
  | s :: t => if s.1 = 0 then (if f < k then [(f, k)] else []) ++ rng (k + 1) (k + 1) t else rng f (k + 1) t
def cutR (l : List St) (p : Nat × Nat) : List St := (l.drop p.1).take (p.2 - p.1)
theorem cutR_none (l : List St) (f : Nat) : cutR l (f, f) = [] := by simp [cutR]
theorem cutR_len (l : List St) (p : Nat × Nat) (h : p.2 ≤ l.length) : (cutR l p).length = p.2 - p.1 := by simp [cutR]; omega
theorem cutR_drop (l : List St) (f k : Nat) (h : f ≤ k) : l.drop f = cutR l (f, k) ++ l.drop k := by
  have e : l.drop k = (l.drop f).drop (k - f) := by rw [List.drop_drop]; congr 1; omega
  rw [e]; exact (List.take_append_drop _ _).symm
theorem cutR_snoc (l : List St) (f k : Nat) (s : St) (t : List St) (h : f ≤ k) (hd : l.drop k = s :: t) : cutR l (f, k + 1) = cutR l (f, k) ++ [s] := by
  have hs : (l.drop f)[k - f]? = some s := by
    rw [List.getElem?_drop, show f + (k - f) = k by omega]
    have h0 := congrArg (fun z => z[0]?) hd
    simpa [List.getElem?_drop] using h0
  show (l.drop f).take (k + 1 - f) = (l.drop f).take (k - f) ++ [s]
  rw [show k + 1 - f = (k - f) + 1 by omega, List.take_add_one, hs]; rfl
theorem cutR_getD (l : List St) (p : Nat × Nat) (j : Nat) (hj : j < p.2 - p.1) : (cutR l p).getD j (0, 0, 0) = l.getD (p.1 + j) (0, 0, 0) := by
  simp only [cutR, List.getD_eq_getElem?_getD, List.getElem?_take, List.getElem?_drop, if_pos hj]
theorem cutR_mem (l : List St) (p : Nat × Nat) : ∀ s ∈ cutR l p, s ∈ l := fun _ hs => List.mem_of_mem_drop (List.mem_of_mem_take hs)
theorem run_take {r : List St} (h : ∀ s ∈ r, s.1 ≠ 0) : r.takeWhile ne0 = r ∧ r.dropWhile ne0 = [] := by
  induction r with
  | nil => exact ⟨rfl, rfl⟩
  | cons a r ih =>
    have ha := ne0_true.2 (h a (by simp))
    obtain ⟨i1, i2⟩ := ih (fun s hs => h s (by simp [hs]))
    exact ⟨by rw [List.takeWhile_cons, ha, i1]; rfl, by rw [List.dropWhile_cons, ha, i2]; rfl⟩
theorem rowsP_one {r : List St} (h : ∀ s ∈ r, s.1 ≠ 0) (hr : r ≠ []) : rowsP r = [r] := by
  cases r with
  | nil => exact absurd rfl hr
  | cons a r =>
    obtain ⟨i1, i2⟩ := run_take (fun s hs => h s (List.mem_cons_of_mem a hs))
    rw [rowsP_row (h a (by simp)), i1, i2, rowsP_nil]
theorem rng_rows (l : List St) : ∀ (t : List St) (f k : Nat), l.drop k = t → f ≤ k → k ≤ l.length → (∀ s ∈ cutR l (f, k), s.1 ≠ 0) → (rng f k t).map (cutR l) = rowsP (l.drop f) := by
  intro t
  induction t with
  | nil =>
    intro f k hd hf hk hr
    rw [cutR_drop l f k hf, hd, List.append_nil, rng]
    by_cases hfk : f < k
    · rw [if_pos hfk, rowsP_one hr (by intro e; have := cutR_len l (f, k) hk; rw [e] at this; simp at this; omega)]; rfl
    · obtain rfl : f = k := by omega
      rw [if_neg hfk, cutR_none, rowsP_nil]; rfl
  | cons s t ih =>
    intro f k hd hf hk hr
    have hlt : k < l.length := by
      have := congrArg List.length hd
      simp at this; omega
    have hd' : l.drop (k + 1) = t := by rw [← List.drop_drop, hd]; rfl
    rw [rng]
    by_cases hs : s.1 = 0
    · rw [if_pos hs, List.map_append, ih (k + 1) (k + 1) hd' (Nat.le_refl _) hlt (by rw [cutR_none]; simp), hd', cutR_drop l f k hf, hd, rowsP_parts _ _ _ hs]
      congr 1
      by_cases hfk : f < k
      · rw [if_pos hfk, rowsP_one hr (by intro e; have := cutR_len l (f, k) hk; rw [e] at this; simp at this; omega)]; rfl
      · obtain rfl : f = k := by omega
        rw [if_neg hfk, cutR_none, rowsP_nil]; rfl
    · rw [if_neg hs, ih f (k + 1) hd' (by omega) hlt (by
        rw [cutR_snoc l f k s t hf hd]
        intro z hz
        rcases List.mem_append.1 hz with hz | hz
        · exact hr z hz
        · obtain rfl : z = s := by simpa using hz
          exact hs)]
theorem rng_all (l : List St) : (rng 0 0 l).map (cutR l) = rowsP l := by
  have := rng_rows l l 0 0 rfl (Nat.le_refl _) (Nat.zero_le _) (by rw [cutR_none]; simp)
  exact this

/-- A range within so many steps. -/
abbrev RgI (n : Nat) := { p : Nat × Nat // p.1 < p.2 ∧ p.2 ≤ n }
def rgL {n : Nat} (l : List (RgI n)) : List (Nat × Nat) := l.map (·.val)
theorem rgL_snoc {n : Nat} (l : List (RgI n)) (x : RgI n) : rgL (l ++ [x]) = rgL l ++ [x.val] := by simp [rgL]
theorem rgL_len {n : Nat} (l : List (RgI n)) : (rgL l).length = l.length := by simp [rgL]

/-- Check's answer at a good row's block. -/
theorem chk_blk {r : List St} (hg : r.all stGood = true) : chkS (blkOf r) = if longB r then 5 else if diffB r then 0 else 7 := by
  obtain ⟨ea, eb, ia, ib, va, vb⟩ := row_texts hg
  unfold chkS blkOf
  simp only [mkB_data, va, vb, ia, ib, Bool.and_self, if_true]
  by_cases hl : 3 < (stA r).length ∨ 3 < (stB r).length
  · have hL : longB r = true := decide_eq_true hl
    rw [if_pos hl, hL]; rfl
  · have hL : longB r = false := decide_eq_false hl
    rw [if_neg hl, hL]
    by_cases hd : stA r = stB r
    · have hD : diffB r = false := decide_eq_false (fun h => h hd)
      have he : readA r = readB r := (row_differ hg).2 hd
      rw [hD, if_pos (by rw [he])]; rfl
    · have hD : diffB r = true := decide_eq_true hd
      have hne : mkB (readA r) ≠ mkB (readB r) := fun e => hd ((row_differ hg).1 (by rw [← mkB_data (readA r), e, mkB_data]))
      rw [hD, if_neg hne, if_neg (by omega)]; rfl
/-- The blocks among all that Check lets by are those that aren't too long, and differ. -/
theorem of_filter {l : List St} (hg : l.all stGood = true) : ((rowsP l).map blkOf).filter (fun b => decide (chkS b = 0)) = ofS l := by
  rw [ofS, if_pos hg, List.filter_map]
  congr 1
  refine List.filter_congr (fun r hr => ?_)
  show decide (chkS (blkOf r) = 0) = _
  rw [chk_blk (rows_good hg r hr)]
  cases longB r <;> cases diffB r <;> rfl
theorem long_filter {l : List St} (hg : l.all stGood = true) : (((rowsP l).map blkOf).filter (fun b => decide (chkS b = 5))).length = longS l := by
  rw [longS, if_pos hg, List.filter_map, List.length_map]
  congr 1
  refine List.filter_congr (fun r hr => ?_)
  show decide (chkS (blkOf r) = 5) = _
  rw [chk_blk (rows_good hg r hr)]
  cases longB r <;> cases diffB r <;> rfl
end Go.Proofs.YtmfmbmlfdlebfaaDoor

/- A loop over an iterator that itself loops over another one and hands its elements on: what such an iterator promises, and the law of the loop over it. -/
namespace Go.Proofs.YtmfmbmlfdlebfaaDoor
open Go.RowKit Go.Shelf

/-- What such an iterator does between two rounds: whatever lay below B lies as it lay; of what lies from B on it turns its own two boxes and what holds no cells. -/
def Priv (B : Nat) (W1 W2 : World) : Prop := Below B W1 W2 ∧ ∀ k o, B + 2 ≤ k → W1.heap[k]? = some o → o.isCells = true → W2.heap[k]? = some o
theorem Priv.of_below {B : Nat} {W1 W2 : World} (h : Below W1.heap.size W1 W2) (hB : B ≤ W1.heap.size) : Priv B W1 W2 :=
  ⟨h.mono hB, fun k _ _ hk _ => (h.block k (Array.getElem?_eq_some_iff.1 hk).1).trans hk⟩
theorem Priv.of_grown {B : Nat} {W1 W2 : World} {row : Option Nat} (h : W1.grownBy W2 row) (hr : ∀ r, row = some r → B + 2 ≤ r ∧ ∃ o : Obj, W1.heap[r]? = some o ∧ o.isCells = false) (hB : B ≤ W1.heap.size) : Priv B W1 W2 :=
  ⟨⟨h.os, h.tape, h.output, h.size, fun k hk => h.block k (Nat.lt_of_lt_of_le hk hB) (fun e => by have := (hr k e.symm).1; omega)⟩,
   fun k _ _ hk ho => (h.block k (Array.getElem?_eq_some_iff.1 hk).1 (fun e => by
     obtain ⟨_, o', ho', hc⟩ := hr k e.symm
     rw [hk] at ho'; cases ho'; rw [ho] at hc; cases hc)).trans hk⟩

/-- The two boxes are kept. -/
def KeepsTwo (B : Nat) (W W' : World) : Prop := ∀ k, B ≤ k → k < B + 2 → W'.heap[k]? = W.heap[k]?

/-- The contract of such an iterator, where no round leaves early. -/
def SeqT {α : Type} (n : Nat) (P : Program) (g : Nat) (lb : Array Value) (encs : α → Array Value) (Kp : World → World → Prop) (S : List α → Prop) (N : Nat) (w : World) : Prop :=
  ∀ (l : Nat) (J : List α → World → Prop) (W : World), Below w.heap.size w W → (∀ pre W1 W2, J pre W1 → W.heap.size ≤ W1.heap.size → Priv W.heap.size W1 W2 → J pre W2) →
    (∀ pre x W1, J pre W1 → pre.length < N → W.heap.size + 2 ≤ W1.heap.size → YieldAt Fence.wide (n - 1) P l (encs x) W1 fun e W' =>
      e = .returned (.bool true) ∧ J (pre ++ [x]) W' ∧ Kp W1 W' ∧ KeepsFrom W.heap.size W1 W' ∧ KeepsTwo W.heap.size W1 W') →
    J [] W →
    CallsIn Fence.wide n P g (#[.func (.yield l) #[] #[]] ++ lb) W fun e W' => (∃ v, e = .returned v) ∧ ∃ xs, S xs ∧ J xs W'

theorem yield_deep {m m' l l' : Nat} {P : Program} {args : Array Value} {W : World} {R : Ending → World → Prop} (h : YieldAt Fence.wide m P l args W R) : YieldAt (Fence.wide.inRound l') m' P l args W R := by
  obtain ⟨fn, tmps, assign, body, hy, hR⟩ := h
  exact ⟨fn, tmps, assign, body, hy, hR.1, fun c cs _ => hR.2 c cs (room_wide _)⟩

/-- How the body of a round is left. -/
def privPost {α : Type} (b : Nat) (Kp : World → World → Prop) (I : List α → World → Prop) (xs : List α) (W : World) : Exit → Act → World → Prop
  | .normal, _, W' => KeepsFrom b W W' ∧ KeepsTwo (b + 2) W W' ∧ Kp W W' ∧ I xs W'
  | _, _, _ => False

theorem wp_range_priv {α : Type} {n : Nat} {P : Program} {g : Operand} {ps : Array Tmp} {assign body : Code} {Q : Exit → Act → World → Prop} {a : Act} {w : World}
    (h1 : 1 ≤ n) {gf : Nat} {lb : Array Value} (hg : a.eval g = .func (.func gf) #[] lb) (eg : ∀ args w, (callFunc gf args).run P w = .ok (.enter gf args) w)
    {encs : α → Array Value} {Kp : World → World → Prop} {S : List α → Prop} {N : Nat} {w0 : World} (hseq : SeqT (n - 1) P gf lb encs Kp S N w0)
    (hKt : ∀ {A B C : World}, Kp A B → Kp B C → Kp A C) (hKb : ∀ (W : World) (l : Nat) (o o' : Obj), w.heap.size ≤ l → W.heap[l]? = some o → o.isCells = false → o.isWalk = false → Kp W (W.putObj l o')) (hb0 : Below w0.heap.size w0 w) (hps : ∀ x, (encs x).size = ps.size)
    (I : List α → World → Prop) (hI : OwnFrom w.heap.size I) (hIp : ∀ pre W1 W2, I pre W1 → w.heap.size + 2 ≤ W1.heap.size → Priv (w.heap.size + 2) W1 W2 → I pre W2) (h0 : I [] w) (a₁ : α → Act)
    (hassign : ∀ (l : Nat) (x : α) (W : World) (K : Act → World → Prop), K (a₁ x) W →
      assign.wpIn (Fence.wide.inRound l) (n - 1 - 1) P (Exit.then K (fun _ _ _ => False)) { tmps := (ps.zip (encs x)).foldl (fun t (p, v) => t.setIfInBounds p v) a.tmps, defers := [] } W)
    (hbody : ∀ (l : Nat) (pre : List α) (x : α) (W : World), w.heap.size + 4 ≤ W.heap.size → I pre W → pre.length < N → body.wpIn (Fence.wide.inRound l) (n - 1 - 1) P (privPost w.heap.size Kp I (pre ++ [x]) W) (a₁ x) W)
    (hdone : ∀ (D : Nat) (xs : List α) (W : World), w.heap.size ≤ D → S xs → I xs W → W.heap[D]? = some (.deferred (some [])) → Q .normal { a with defers := { target := .collected D, args := #[] } :: a.defers } W) :
    (Code.rangeFunc g ps assign body).wpIn Fence.wide n P Q a w := by
  refine wpIn_rangeFunc fun fn hfn => ?_
  obtain ⟨b, hb⟩ : ∃ b, w.heap.size = b := ⟨_, rfl⟩
  obtain ⟨rc, hrc⟩ : ∃ rc : LoopState → Loop, rc = fun st => { state := st, pending := none, fn, tmps := a.tmps, params := ps, assign, body, defers := b } := ⟨_, rfl⟩
  obtain ⟨V, hV⟩ : ∃ V, (w.alloc (.deferred (some []))).alloc (.loop (rc .ready)) = V := ⟨_, rfl⟩
  have hVs : V.heap.size = b + 2 := by rw [← hV]; simp [hb]
  have hL : V.heap[b + 1]? = some (.loop (rc .ready)) := by
    rw [← hV]; have := World.alloc_heap_new (w.alloc (.deferred (some []))) (.loop (rc .ready)); rwa [World.size_alloc, hb] at this
  have hD : V.heap[b]? = some (.deferred (some [])) := by
    rw [← hV, ← hb]; exact (Below.heap_alloc _ _ _ (by simp)).trans (World.alloc_heap_new w _)
  have hI0 : I [] V := by rw [← hV]; exact hI.alloc _ (hI.alloc _ h0)
  have hbV : Below w0.heap.size w0 V := by
    rw [← hV]; exact hb0.trans ((((Below.refl _ w).alloc (Nat.le_refl _) _).alloc (by simp) _).mono hb0.size)
  rw [hb] at hKb hI hIp hbody hdone
  refine ⟨b + 1, [{ target := .collected b, args := #[] }], V, { target := .fn (.func gf) lb, args := #[.func (.yield (b + 1)) #[] #[]] }, V, gf, #[.func (.yield (b + 1)) #[] #[]] ++ lb, V, ?_, ?_, ?_, ?_, fun _ => h1, ?_⟩
  · rw [← hV, hrc, ← hb]; exact run_enterLoop_outer _ _ _ _ _
  · simp only [resolve, hg]; simp [go_sem]
  · intro f' _; trivial
  · simp [invoke, go_sem, eg]
  refine (hseq (b + 1) (fun pre W => I pre W ∧ W.heap[b + 1]? = some (.loop (rc .ready)) ∧ W.heap[b]? = some (.deferred (some []))) V hbV
    (fun pre A B hJ hs hp => by
      rw [hVs] at hp hs
      exact ⟨hIp pre A B hJ.1 hs hp, (hp.1.block _ (by omega)).trans hJ.2.1, (hp.1.block _ (by omega)).trans hJ.2.2⟩) ?_ ⟨hI0, hL, hD⟩).mono ?_
  · rintro pre x W ⟨hi, hl, hk⟩ hlen hsz
    rw [hVs] at hsz ⊢
    have hlt : b + 1 < W.heap.size := by omega
    have hy := run_yield (P := P) (args := encs x) hl (by rw [hrc]; exact hps x)
    rw [hrc] at hy
    obtain ⟨W2, hW2⟩ : ∃ W2, W.putObj (b + 1) (.loop { rc .ready with state := .busy }) = W2 := ⟨_, rfl⟩
    have hl2 : W2.heap[b + 1]? = some (.loop { rc .ready with state := .busy }) := by rw [← hW2]; exact World.putObj_heap_same hlt
    have ho2 : ∀ k, k ≠ b + 1 → W2.heap[k]? = W.heap[k]? := fun k hne => by rw [← hW2]; exact World.putObj_heap_other hne
    have hs2 : W2.heap.size = W.heap.size := by rw [← hW2]; simp
    have hkp2 : Kp W W2 := by rw [← hW2]; exact hKb _ _ _ _ (by omega) hl rfl rfl
    have hi2 : I pre W2 := by rw [← hW2]; exact hI.putObj _ hi (by omega) hl rfl
    refine ⟨fn, _, assign, body, hy, roundIn_of_wpIn hfn (hassign _ x W _ ⟨W2, by rw [← hW2]; exact run_beginRound hl (by rw [hrc]), ?_⟩)⟩
    refine wpIn_mono (hbody _ pre x W2 (by omega) hi2 hlen) ?_
    rintro e a3 W3 hp
    cases e with
    | normal =>
      obtain ⟨hk3, ht3, hkp3, hi3⟩ := hp
      have hl3 := hk3.same _ _ (by omega) hl2 rfl
      have he := run_endRound (P := P) none hl3
      refine ⟨_, _, he, rfl, ⟨hI.putObj _ hi3 (by omega) hl3 rfl, ?_, ?_⟩, hKt (hKt hkp2 hkp3) (hKb _ _ _ _ (by omega) hl3 rfl rfl), ?_, ?_⟩
      · rw [World.putObj_heap_same (Array.getElem?_eq_some_iff.1 hl3).1, hrc]; rfl
      · exact (World.putObj_heap_other (by omega)).trans (hk3.same _ _ (Nat.le_refl _) ((ho2 b (by omega)).trans hk) rfl)
      · refine ⟨by simp; have := hk3.size; omega, fun k _ hB hk0 ho => ?_⟩
        exact (World.putObj_heap_other (by omega)).trans (hk3.same _ _ (by omega) ((ho2 k (by omega)).trans hk0) ho)
      · intro k hB1 hB2
        exact (World.putObj_heap_other (by omega)).trans ((ht3 k hB1 hB2).trans (ho2 k (by omega)))
    | ret => exact hp.elim
    | exit id => exact hp.elim
    | goto t => exact hp.elim
    | panic ch => exact hp.elim
    | outgrown => exact hp.elim
  · rintro e W2 ⟨⟨v, rfl⟩, xs, hS, hi, hl, hk⟩
    have he := run_endLoop (P := P) hl (by rw [hrc]; simp)
    refine ⟨none, _, by rw [hrc] at he; exact he, hdone _ xs _ (Nat.le_refl _) hS (hI.putObj _ hi (by omega) hl rfl) ((World.putObj_heap_other (by omega)).trans hk)⟩
end Go.Proofs.YtmfmbmlfdlebfaaDoor

/- The longest rows of steps that aren't matches, as block.rows hands them on: the iterator's contract. -/
namespace Go.Proofs.YtmfmbmlfdlebfaaDoor
open Go.RowKit Go.Shelf
attribute [local go_sem] Oper.semAt_some

/-- A row as a value: a part of the steps' own slice. -/
def rowV (b o c : Nat) (p : Nat × Nat) : Value := .slice (some ⟨b, o + p.1 * 3, none⟩) (p.2 - p.1) (c - p.1)
/-- A part of steps reads as a part of the list. -/
theorem StRuns.cut {w : World} {b o c n : Nat} {l : List St} (h : StRuns w (.slice (some ⟨b, o, none⟩) n c) l) (hn : l.length = n) (p : Nat × Nat) (h1 : p.1 < p.2) (h2 : p.2 ≤ n) : StRuns w (rowV b o c p) (cutR l p) := by
  obtain ⟨A, c', e, hc, ⟨hm, _⟩, hx⟩ := h
  obtain ⟨rfl, _, rfl⟩ := Value.slice.inj e
  obtain ⟨b', o', e2, hlt, hcell⟩ := hx (by omega)
  have e3 := Option.some.inj e2
  simp only [Addr.mk.injEq] at e3
  obtain ⟨rfl, rfl, _⟩ := e3
  have hl := cutR_len l p (by omega)
  refine ⟨some ⟨b, o + p.1 * 3, none⟩, c - p.1, by rw [hl, rowV], by omega, ⟨by omega, fun h => by cases h⟩, fun _ => ⟨b, o + p.1 * 3, rfl, hlt, fun j hj => ?_⟩⟩
  rw [hl] at hj
  have := hcell (p.1 + j) (by omega)
  rw [cutR_getD l p j hj]
  rwa [show o + p.1 * 3 + j * 3 = o + (p.1 + j) * 3 by omega]
theorem rng_nil_end (f : Nat) : rng f f [] = [] := by rw [rng, if_neg (by omega)]

set_option maxRecDepth 100000 in
set_option maxHeartbeats 8000000 in
theorem riter_in (n : Nat) (hn : 1 ≤ n) (l Bs n₀ : Nat) (A : Option Addr) (N c b o : Nat) (L : List St) (hN : L.length = N) (hL : N ≤ 1000000) (hA : 0 < N → A = some ⟨b, o, none⟩) (w0 : World) (hw0 : w0.heap.size = n₀) (hx : StRuns w0 (.slice A N c) L) (J Jx : List (RgI N) → World → Prop)
    (W : World) (hJ : AbidesFrom W.heap.size J)
    (hY : ∀ pre x W1, J pre W1 → pre.length < N → YieldAt Fence.wide (n - 1) Tryd.prog l #[rowV b o c x.val] W1 fun e W' =>
      (e = .returned (.bool true) ∧ J (pre ++ [x]) W' ∧ Keep n₀ Bs W1 W') ∨ (e = .returned (.bool false) ∧ Jx (pre ++ [x]) W'))
    (_ : n₀ ≤ W.heap.size) (hW0 : Below n₀ w0 W) (_ : Bs < W.heap.size)
    (hc : W.cell? ⟨Bs, 0, none⟩ = some (.slice A N c)) (h0 : J [] W) :
    CallsIn Fence.wide n Tryd.prog 90 #[.func (.yield l) #[] #[], .pointer (some ⟨Bs, 0, none⟩)] W fun e W' => (∃ v, e = .returned v) ∧
      ((∃ ys, rgL ys = rng 0 0 L ∧ J ys W') ∨ (∃ pre, rgL pre <+: rng 0 0 L ∧ Jx pre W')) := by
  have HN := Lib.hid hN; clear hN
  have HX := Lib.hid hx; clear hx
  have HW0 := Lib.hid hw0; clear hw0
  have hcm : N ≤ c ∧ c ≤ 9223372036854775807 := by
    obtain ⟨A', c', e, h1, ⟨h2, _⟩, _⟩ := HX.out
    obtain ⟨rfl, _, rfl⟩ := Value.slice.inj e
    unfold maxLen at h2
    exact ⟨HN.out ▸ h1, h2⟩
  obtain ⟨R0, hR0⟩ : ∃ R0, rng 0 0 L = R0 := ⟨_, rfl⟩
  rw [hR0]
  have HR0 : Hid (R0 = rgL ([] : List (RgI N)) ++ rng 0 0 (L.drop 0)) := Lib.hid (by rw [← hR0]; rfl)
  clear hR0
  refine callsIn_of_wp Tryd.func90 rfl trivial ?_ rfl
  simp only [Tryd.ntmps90, List.size_toArray, List.length_cons, List.length_nil, Nat.reduceAdd, Nat.reduceSub, Array.replicate_succ, Array.replicate_zero, List.push_toArray, List.append_toArray, List.nil_append, List.cons_append]
  refine wpIn_wide.2 (wp_scope_straight ((wpIn_wide (n := n)).1 ?_))
  gi_wp2_with (refine wpIn_label ?_)
  gi_loopw [3, 8] (fun s3 s8 wr => ∃ (f k : Nat) (pre : List (RgI N)), s3 = .int .i64 f ∧ s8 = .int .i64 k ∧ f ≤ k ∧ k ≤ N + 1 ∧ (k = N + 1 → f = k) ∧ pre.length ≤ f ∧ Hid (R0 = rgL pre ++ rng f k (L.drop k)) ∧ J pre wr ∧ Keep n₀ Bs W wr)
    (fun _ s8 _ => N + 1 - (intOf s8).toNat)
  case atStart => exact ⟨0, 0, [], rfl, rfl, Nat.le_refl _, by omega, by omega, by simp, HR0, h0, Keep.refl _ _ _⟩
  case round =>
    clear HR0 h0
    obtain ⟨f, k, pre, rfl, rfl, hfk, hkN, hkf, hpf, HR, hJs, hKB⟩ := hrel
    have hcell : wr.cell? ⟨Bs, 0, none⟩ = some (.slice A N c) := (World.cell?_of_block hKB.2).trans hc
    have BL : Hid (Below n₀ w0 wr) := Lib.hid (hW0.trans hKB.1)
    by_cases hend : k = N + 1
    · obtain rfl := hkf hend
      subst hend
      have HE : Hid (rgL pre = R0) := Lib.hid (by rw [HR.out, List.drop_of_length_le (by rw [HN.out]; omega), rng_nil_end, List.append_nil])
      gi_wp2
      go_end0
      exact ⟨⟨_, rfl⟩, .inl ⟨pre, HE.out, hJs⟩⟩
    have k1 : (k : Int) < (N : Int) + 1 := by omega
    by_cases hk : k < N
    · obtain rfl := hA (by omega)
      have hcs : wr.cell? ⟨b, o + k * 3, none⟩ = some (.int .i64 (L.getD k (0, 0, 0)).1) := by
        obtain ⟨A', c', e, _, _, hx⟩ := HX.out.below (HW0.out.symm ▸ BL.out)
        obtain ⟨e1, _, rfl⟩ := Value.slice.inj e
        obtain ⟨b', o', e2, _, hc⟩ := hx (by rw [HN.out]; omega)
        have e3 := Option.some.inj (e1.trans e2)
        simp only [Addr.mk.injEq] at e3
        obtain ⟨rfl, rfl, _⟩ := e3
        exact (hc k (by rw [HN.out]; exact hk)).1
      obtain ⟨s, hs⟩ : ∃ s, L.getD k (0, 0, 0) = s := ⟨_, rfl⟩
      have hd : L.drop k = s :: L.drop (k + 1) := by
        rw [List.drop_eq_getElem_cons (by rw [HN.out]; exact hk), ← hs, List.getD_eq_getElem?_getD, List.getElem?_eq_getElem (by rw [HN.out]; exact hk)]; rfl
      rw [hs] at hcs
      have HR' : Hid (R0 = rgL pre ++ rng f k (s :: L.drop (k + 1))) := Lib.hid (by rw [HR.out, hd])
      clear hd hs HR
      obtain ⟨kd, hkd⟩ : ∃ kd, s.1 = kd := ⟨_, rfl⟩
      rw [hkd] at hcs
      have k2 : (k : Int) < (N : Int) := by omega
      by_cases hz : kd = 0
      · subst hz
        by_cases hlt : f < k
        · have k3 : (f : Int) < (k : Int) := by omega
          obtain ⟨X, hX⟩ : ∃ X : RgI N, X.val = (f, k) := ⟨⟨(f, k), hlt, by show k ≤ N; omega⟩, rfl⟩
          have HRn : Hid (R0 = rgL (pre ++ [X]) ++ rng (k + 1) (k + 1) (L.drop (k + 1))) := Lib.hid (by rw [HR'.out, rng, if_pos hkd, if_pos hlt, rgL_snoc, hX]; simp)
          obtain ⟨fn, tmps, assign, body, hy, hR⟩ := hY pre X wr hJs (by omega)
          rw [hX, rowV] at hy
          simp only at hy
          clear hX hkd HR'
          gi_wp2
          refine hR.mono ?_
          rintro e W3 (⟨rfl, hJ3, hk3⟩ | ⟨rfl, hJx3⟩)
          · gi_wp2
            go_roundw
            case rel => exact ⟨k + 1, k + 1, pre ++ [X], by go_num, by go_num, Nat.le_refl _, by omega, fun _ => rfl, by simp; omega, HRn, hJ3, hKB.trans hk3⟩
            case measure => simp [intOf] <;> omega
          · gi_wp2
            rw [Exit.noGoto_normal]
            go_end0
            exact ⟨⟨_, rfl⟩, .inr ⟨pre ++ [X], by rw [HRn.out]; exact List.prefix_append _ _, hJx3⟩⟩
        · have k3 : ¬ (f : Int) < (k : Int) := by omega
          obtain rfl : f = k := by omega
          have HRn : Hid (R0 = rgL pre ++ rng (f + 1) (f + 1) (L.drop (f + 1))) := Lib.hid (by rw [HR'.out, rng, if_pos hkd, if_neg hlt]; simp)
          clear hkd HR'
          gi_wp2
          refine ⟨fun _ _ => trivial, ?_⟩
          gi_wp2
          go_roundw
          case rel => exact ⟨f + 1, f + 1, pre, by go_num, by go_num, Nat.le_refl _, by omega, fun _ => rfl, by omega, HRn, hJs, hKB⟩
          case measure => simp [intOf] <;> omega
      · have hz' : (kd == 0) = false := by simpa using hz
        have hz2 : (kd != 0) = true := by simpa using hz
        have HRn : Hid (R0 = rgL pre ++ rng f (k + 1) (L.drop (k + 1))) := Lib.hid (by rw [HR'.out, rng, if_neg (by rw [hkd]; exact hz)])
        clear hkd HR'
        gi_wp2
        go_roundw
        case rel => exact ⟨f, k + 1, pre, by go_num, by go_num, by omega, by omega, by omega, hpf, HRn, hJs, hKB⟩
        case measure => simp [intOf] <;> omega
    · obtain rfl : k = N := by omega
      have HR' : Hid (R0 = rgL pre ++ rng f k []) := Lib.hid (by rw [HR.out, List.drop_of_length_le (Nat.le_of_eq HN.out)])
      have hdn : L.drop (k + 1) = [] := List.drop_of_length_le (by rw [HN.out]; omega)
      by_cases hlt : f < k
      · have k3 : (f : Int) < (k : Int) := by omega
        obtain rfl := hA (by omega)
        obtain ⟨X, hX⟩ : ∃ X : RgI k, X.val = (f, k) := ⟨⟨(f, k), hlt, Nat.le_refl _⟩, rfl⟩
        have HRn : Hid (R0 = rgL (pre ++ [X]) ++ rng (k + 1) (k + 1) (L.drop (k + 1))) := Lib.hid (by rw [HR'.out, rng, if_pos hlt, rgL_snoc, hX, hdn, rng_nil_end]; simp)
        obtain ⟨fn, tmps, assign, body, hy, hR⟩ := hY pre X wr hJs (by omega)
        rw [hX, rowV] at hy
        simp only at hy
        clear hX HR' HR hdn
        gi_wp2
        refine hR.mono ?_
        rintro e W3 (⟨rfl, hJ3, hk3⟩ | ⟨rfl, hJx3⟩)
        · gi_wp2
          go_roundw
          case rel => exact ⟨k + 1, k + 1, pre ++ [X], by go_num, by go_num, Nat.le_refl _, by omega, fun _ => rfl, by simp; omega, HRn, hJ3, hKB.trans hk3⟩
          case measure => simp [intOf] <;> omega
        · gi_wp2
          rw [Exit.noGoto_normal]
          go_end0
          exact ⟨⟨_, rfl⟩, .inr ⟨pre ++ [X], by rw [HRn.out]; exact List.prefix_append _ _, hJx3⟩⟩
      · have k3 : ¬ (f : Int) < (k : Int) := by omega
        obtain rfl : f = k := by omega
        have HRn : Hid (R0 = rgL pre ++ rng (f + 1) (f + 1) (L.drop (f + 1))) := Lib.hid (by rw [HR'.out, rng, if_neg hlt, hdn, rng_nil_end])
        clear HR' HR hdn
        gi_wp2
        refine ⟨fun _ _ => trivial, ?_⟩
        gi_wp2
        go_roundw
        case rel => exact ⟨f + 1, f + 1, pre, by go_num, by go_num, Nat.le_refl _, by omega, fun _ => rfl, by omega, HRn, hJs, hKB⟩
        case measure => simp [intOf] <;> omega
end Go.Proofs.YtmfmbmlfdlebfaaDoor

/- All blocks of steps that may be, as block.blocks hands them on: the iterator's contract. -/
namespace Go.Proofs.YtmfmbmlfdlebfaaDoor
open Go.RowKit Go.Shelf
attribute [local go_sem] Oper.semAt_some

theorem kf_below {B : Nat} {W W' : World} (h : Below W.heap.size W W') : KeepsFrom B W W' := ⟨h.size, fun k _ _ hk _ => (h.block k (Array.getElem?_eq_some_iff.1 hk).1).trans hk⟩
theorem kf_up {B C : Nat} {W W' : World} (h : KeepsFrom B W W') (hB : B ≤ C) : KeepsFrom C W W' := ⟨h.size, fun k o hk h0 ho => h.same k o (Nat.le_trans hB hk) h0 ho⟩

theorem riter_stops (n : Nat) (hn : 1 ≤ n) (Bs n₀ : Nat) (A : Option Addr) (N c b o : Nat) (L : List St) (hN : L.length = N) (hL : N ≤ 1000000) (hA : 0 < N → A = some ⟨b, o, none⟩) (w0 : World) (hw0 : w0.heap.size = n₀) (hx : StRuns w0 (.slice A N c) L)
    (w : World) (hn0 : n₀ ≤ w.heap.size) (hW0 : Below n₀ w0 w) (hBs : Bs < w.heap.size) (hc : w.cell? ⟨Bs, 0, none⟩ = some (.slice A N c)) :
    SeqStopsK Fence.wide n Tryd.prog 90 #[.pointer (some ⟨Bs, 0, none⟩)] (fun x : RgI N => #[rowV b o c x.val]) (Keep n₀ Bs) (fun ys => rgL ys = rng 0 0 L) (fun pre => rgL pre <+: rng 0 0 L) N w :=
  fun l J Jx W hW hJ _ hY h0 => riter_in n hn l Bs n₀ A N c b o L hN hL hA w0 hw0 hx J Jx W hJ hY (Nat.le_trans hn0 hW.size) (hW0.trans (hW.mono hn0)) (Nat.lt_of_lt_of_le hBs hW.size) ((hW.cell (p := ⟨Bs, 0, none⟩) hBs).trans hc) h0

/-- rows(l): l is boxed, and the function value captures the box. -/
theorem rowsFn_any (A : Option Addr) (n c : Nat) (w : World) :
    Calls Tryd.prog 72 #[.slice A n c] w fun e w' => e = .returned (.func (.func 90) #[] #[.pointer (some ⟨w.heap.size, 0, none⟩)]) ∧ w' = w.alloc (.cells #[.slice A n c] 60) := by
  go_enter Tryd.func72, Tryd.ntmps72
  go_wp2
  go_ret
  exact ⟨rfl, rfl⟩
theorem blocksFn_any (A : Option Addr) (n c : Nat) (w : World) :
    Calls Tryd.prog 54 #[.slice A n c] w fun e w' => e = .returned (.func (.func 71) #[] #[.pointer (some ⟨w.heap.size, 0, none⟩)]) ∧ w' = w.alloc (.cells #[.slice A n c] 60) := by
  go_enter Tryd.func54, Tryd.ntmps54
  go_wp2
  go_ret
  exact ⟨rfl, rfl⟩

/-- A block of texts that aren't too great. -/
abbrev BkI := { b : Blk // b.1.size ≤ 8000000 ∧ b.2.1.size ≤ 8000000 }
def bkL (l : List BkI) : List Blk := l.map (·.val)
theorem bkL_snoc (l : List BkI) (x : BkI) : bkL (l ++ [x]) = bkL l ++ [x.val] := by simp [bkL]
theorem cut_small (L : List St) (N : Nat) (hN : L.length = N) (hL : N ≤ 1000000) (p : RgI N) : (blkOf (cutR L p.val)).1.size ≤ 8000000 ∧ (blkOf (cutR L p.val)).2.1.size ≤ 8000000 := by
  have h1 := cutR_len L p.val (by rw [hN]; exact p.property.2)
  have h2 := p.property.2
  obtain ⟨h3, h4⟩ := read_size (cutR L p.val)
  refine ⟨?_, ?_⟩
  · show (mkB (readA (cutR L p.val))).size ≤ _
    rw [Lib.size_eq, mkB_data]; omega
  · show (mkB (readB (cutR L p.val))).size ≤ _
    rw [Lib.size_eq, mkB_data]; omega
def mkI (L : List St) (N : Nat) (hN : L.length = N) (hL : N ≤ 1000000) (p : RgI N) : BkI := ⟨blkOf (cutR L p.val), cut_small L N hN hL p⟩
theorem mkI_all (L : List St) (N : Nat) (hN : L.length = N) (hL : N ≤ 1000000) (ys : List (RgI N)) (h : rgL ys = rng 0 0 L) : bkL (ys.map (mkI L N hN hL)) = (rowsP L).map blkOf := by
  rw [← rng_all, ← h, bkL, rgL, List.map_map, List.map_map, List.map_map]
  rfl

set_option maxRecDepth 100000 in
set_option maxHeartbeats 4000000 in
theorem biter5 (Bs n₀ : Nat) (A : Option Addr) (N c b o : Nat) (L : List St) (hN : L.length = N) (hL : N ≤ 1000000) (hA : 0 < N → A = some ⟨b, o, none⟩) (hfit : stFit L) (w0 : World) (hO : Okw w0) (hw0 : w0.heap.size = n₀) (hx : StRuns w0 (.slice A N c) L)
    (w : World) (hn0 : n₀ ≤ w.heap.size) (hW0 : Below n₀ w0 w) (hBs : Bs < w.heap.size) (hc : w.cell? ⟨Bs, 0, none⟩ = some (.slice A N c)) :
    SeqT 5 Tryd.prog 71 #[.pointer (some ⟨Bs, 0, none⟩)] (fun x : BkI => #[blkV x.val]) (Keep n₀ Bs) (fun ys => bkL ys = (rowsP L).map blkOf) N w := by
  intro l J W hW hJ hY h0
  have hcW : W.cell? ⟨Bs, 0, none⟩ = some (.slice A N c) := (hW.cell (p := ⟨Bs, 0, none⟩) hBs).trans hc
  have hBW : Bs < W.heap.size := Nat.lt_of_lt_of_le hBs hW.size
  have hnW : n₀ ≤ W.heap.size := Nat.le_trans hn0 hW.size
  have hbW : Below n₀ w0 W := hW0.trans (hW.mono hn0)
  have hcA : (W.alloc (.cells #[.func (.yield l) #[] #[]] 107)).cell? ⟨Bs, 0, none⟩ = some (.slice A N c) := (((Below.refl _ W).alloc (Nat.le_refl _) _).cell (p := ⟨Bs, 0, none⟩) hBW).trans hcW
  refine callsIn_of_wp_marks Tryd.func71 rfl trivial ?_ rfl
  simp only [Tryd.ntmps71, List.size_toArray, List.length_cons, List.length_nil, Nat.reduceAdd, Nat.reduceSub, Array.replicate_succ, Array.replicate_zero, List.push_toArray, List.append_toArray, List.nil_append, List.cons_append]
  gi_wp2_with (refine ⟨trivial, ?_⟩; gi_at_call 72; refine (callsIn_wide.2 (rowsFn_any _ _ _ _)).mono ?_; rintro e w' ⟨rfl, rfl⟩)
  have bY := Boxed.new W 107 (.func (.yield l) #[] #[])
  have bS := Boxed.new (W.alloc (.cells #[.func (.yield l) #[] #[]] 107)) 60 (.slice A N c)
  rw [World.size_alloc] at bS
  have hB0 : Below W.heap.size W ((W.alloc (.cells #[.func (.yield l) #[] #[]] 107)).alloc (.cells #[.slice A N c] 60)) := ((Below.refl _ W).alloc (Nat.le_refl _) _).alloc (by simp) _
  refine wpIn_rangeFunc_ownH rfl (by decide) (gf := 90) (lb := #[.pointer (some ⟨W.heap.size + 1, 0, none⟩)]) rfl trivial (enters_of Tryd.func90 (by kernel_rfl) rfl)
    (riter_stops 4 (by decide) (W.heap.size + 1) n₀ A N c b o L hN hL hA w0 hw0 hx _ (by simp; omega) (hbW.trans (hB0.mono hnW)) (by simp) bS.cell) Keep.trans (keepK_b (by simp; omega) (by simp)) (Below.refl _ _) (fun _ => rfl)
    (fun (pre : List (RgI N)) W' => J (pre.map (mkI L N hN hL)) W' ∧ Boxed W' W.heap.size 107 (.func (.yield l) #[] #[]) ∧ Boxed W' (W.heap.size + 1) 60 (.slice A N c) ∧ W'.heap[Bs]? = W.heap[Bs]? ∧ Below n₀ w0 W')
    (fun _ _ _ => False)
    (fun pre X Y row hx hg hr => by
      obtain ⟨hj, y1, y2, y3, y4⟩ := hx
      have hsz := y2.lt
      have hr' : ∀ r, row = some r → W.heap.size + 2 ≤ r ∧ ∃ o : Obj, X.heap[r]? = some o ∧ o.isCells = false := fun r e => ⟨by have := (hr r e).1; simp at this; omega, (hr r e).2⟩
      have hne : ∀ k, k < W.heap.size + 2 → some k ≠ row := fun k hk e => by have := (hr' k e.symm).1; omega
      exact ⟨hJ _ X Y hj (by omega) (Priv.of_grown hg hr' (by omega)), y1.kept hg (hne _ (by omega)), y2.kept hg (hne _ (by omega)), (hg.block Bs (by omega) (hne _ (by omega))).trans y3, y4.trans ⟨hg.os, hg.tape, hg.output, hg.size, fun k hk => hg.block k (by omega) (hne _ (by omega))⟩⟩)
    (fun c => ownFrom_pure _ (fun _ => False))
    ⟨hJ _ _ _ h0 (Nat.le_refl _) (Priv.of_below hB0 (Nat.le_refl _)), bY.alloc _, bS, hB0.block Bs hBW, hbW.trans (hB0.mono hnW)⟩
    (fun x a' W' => a' = { tmps := #[.func (.yield l) #[] #[], .pointer (some ⟨Bs, 0, none⟩), .pointer (some ⟨W.heap.size, 0, none⟩), rowV b o c x.val, undef, undef, undef, .slice A N c, .func (.func 90) #[] #[.pointer (some ⟨W.heap.size + 1, 0, none⟩)], rowV b o c x.val, undef, undef, undef, undef, undef, undef, undef, undef, undef, undef, undef, undef], defers := [] })
    (fun x a' s X Y row hx hg hr => hx)
    ?assign ?body ?done ?stop
  case assign =>
    rintro l' pre x W' K ⟨hj, y1, y2, y3, y4⟩ hK
    have hsz := y2.lt
    gi_wp2
    exact hK _ _ (kf_below (Below.refl _ _)) (Keep.refl _ _ _) ⟨hj, y1, y2, y3, y4⟩ rfl
  case body =>
    rintro l' pre x a' W' hl' _ ⟨hj, y1, y2, y3, y4⟩ rfl hlt
    have hsz := y2.lt
    have hcy := y1.cell
    obtain ⟨q1, q2⟩ := x.property
    obtain rfl := hA (by omega)
    have hrow : StRuns W' (rowV b o c x.val) (cutR L x.val) := (hx.below (hw0.symm ▸ y4)).cut hN x.val q1 q2
    have hlen : (cutR L x.val).length ≤ 1000000 := by rw [cutR_len L x.val (by rw [hN]; exact q2)]; omega
    have cR := read_any (cutR L x.val) hlen (fun s hs => hfit s (cutR_mem L x.val s hs)) W' _ (hO.below (hw0.symm ▸ y4)) hrow
    obtain ⟨ra, hra⟩ : ∃ z, (⟨(readA (cutR L x.val)).toArray⟩ : ByteArray) = z := ⟨_, rfl⟩
    obtain ⟨rb, hrb⟩ : ∃ z, (⟨(readB (cutR L x.val)).toArray⟩ : ByteArray) = z := ⟨_, rfl⟩
    obtain ⟨er, her⟩ : ∃ z, stErr (cutR L x.val) = z := ⟨_, rfl⟩
    have hb : blkOf (cutR L x.val) = (ra, rb, 1) := by rw [← hra, ← hrb]; rfl
    rw [hra, hrb, her] at cR
    have CR := Lib.hid cR
    have HB := Lib.hid hb
    clear cR hra hrb her hb hrow hlen
    rw [rowV] at CR ⊢
    gi_wp2_with (refine ⟨trivial, ?_⟩; gi_at_call 70; refine (CallsIn.inRound l' (callsIn_wide.2 CR.out)).mono ?_; rintro e w1 ⟨rfl, hb1⟩; have hcy1 : w1.cell? ⟨W.heap.size, 0, none⟩ = some (.func (.yield l) #[] #[]) := (hb1.cell (p := ⟨W.heap.size, 0, none⟩) y1.lt).trans hcy; obtain ⟨fn, tmps, assign, body, hy, hR⟩ := yield_deep (l' := l') (m' := 2) (hY (pre.map (mkI L N hN hL)) (mkI L N hN hL x) w1 (hJ _ _ _ hj (by omega) (Priv.of_below hb1 (by omega))) (by simpa using hlt) (Nat.le_trans hsz hb1.size)); have hy' := hy; rw [show (mkI L N hN hL x).val = (ra, rb, 1) from HB.out, blkV] at hy'; simp only at hy'; clear hy)
    refine hR.mono ?_
    rintro e W3 ⟨rfl, hj3, hkp3, hkf3, hk23⟩
    gi_wp2
    exact ⟨(kf_below hb1).trans (kf_up hkf3 (by simp; omega)), (Keep.of_below hb1 (by omega) hsz).trans ⟨hkp3.1, hk23 _ (by omega) (by omega)⟩, by rw [List.map_append]; exact hj3, (hk23 _ (by omega) (by omega)).trans ((hb1.block _ (by omega)).trans y1), (hk23 _ (by omega) (by omega)).trans ((hb1.block _ (by omega)).trans y2), hkp3.2.trans ((hb1.block _ (by omega)).trans y3), (y4.trans (hb1.mono (by omega))).trans hkp3.1⟩
  case done =>
    rintro D ys W' hD hys ⟨hj, y1, y2, y3, y4⟩ hK
    gi_wp2
    refine ⟨by simp, .inl ⟨_, _, rfl, run_takeDeferred hK, ?_⟩⟩
    refine ⟨_, results_none rfl _ _ _, ⟨_, rfl⟩, _, mkI_all L N hN hL ys hys, ?_⟩
    have hsz := y2.lt
    exact hJ _ _ _ hj (by omega) (Priv.of_grown (grownBy_putObj' W' D (.deferred none)) (fun r e => by cases e; exact ⟨by simp at hD; omega, _, hK, rfl⟩) (by omega))
  case stop => exact fun D c pre W hD hp hF _ => hF.elim
end Go.Proofs.YtmfmbmlfdlebfaaDoor

/- A loop over an iterator that itself loops over another one, where each round boxes its element: the law of the loop. -/
namespace Go.Proofs.YtmfmbmlfdlebfaaDoor
open Go.RowKit Go.Shelf

theorem wp_range_box {α : Type} {n : Nat} {P : Program} {g : Operand} {ps : Array Tmp} {assign body : Code} {Q : Exit → Act → World → Prop} {a : Act} {w : World}
    (h1 : 1 ≤ n) {gf : Nat} {lb : Array Value} (hg : a.eval g = .func (.func gf) #[] lb) (eg : ∀ args w, (callFunc gf args).run P w = .ok (.enter gf args) w)
    {encs : α → Array Value} {Kp : World → World → Prop} {S : List α → Prop} {N : Nat} {w0 : World} (hseq : SeqT (n - 1) P gf lb encs Kp S N w0)
    (hKt : ∀ {A B C : World}, Kp A B → Kp B C → Kp A C) (hKb : ∀ (W : World) (l : Nat) (o o' : Obj), w.heap.size ≤ l → W.heap[l]? = some o → o.isCells = false → o.isWalk = false → Kp W (W.putObj l o')) (hKa : ∀ (W : World) (o : Obj), w.heap.size ≤ W.heap.size → Kp W (W.alloc o)) (hb0 : Below w0.heap.size w0 w) (hps : ∀ x, (encs x).size = ps.size)
    (I : List α → World → Prop) (hI : OwnFrom w.heap.size I) (hIp : ∀ pre W1 W2, I pre W1 → w.heap.size + 2 ≤ W1.heap.size → Priv (w.heap.size + 2) W1 W2 → I pre W2) (h0 : I [] w) (a₁ : α → Nat → Act) (mk : α → Obj)
    (hassign : ∀ (l : Nat) (x : α) (W : World) (K : Act → World → Prop), K (a₁ x W.heap.size) (W.alloc (mk x)) →
      assign.wpIn (Fence.wide.inRound l) (n - 1 - 1) P (Exit.then K (fun _ _ _ => False)) { tmps := (ps.zip (encs x)).foldl (fun t (p, v) => t.setIfInBounds p v) a.tmps, defers := [] } W)
    (hbody : ∀ (l : Nat) (pre : List α) (x : α) (W : World) (k : Nat), w.heap.size + 4 ≤ k → I pre W → W.heap[k]? = some (mk x) → pre.length < N → body.wpIn (Fence.wide.inRound l) (n - 1 - 1) P (privPost w.heap.size Kp I (pre ++ [x]) W) (a₁ x k) W)
    (hdone : ∀ (D : Nat) (xs : List α) (W : World), w.heap.size ≤ D → S xs → I xs W → W.heap[D]? = some (.deferred (some [])) → Q .normal { a with defers := { target := .collected D, args := #[] } :: a.defers } W) :
    (Code.rangeFunc g ps assign body).wpIn Fence.wide n P Q a w := by
  refine wpIn_rangeFunc fun fn hfn => ?_
  obtain ⟨b, hb⟩ : ∃ b, w.heap.size = b := ⟨_, rfl⟩
  obtain ⟨rc, hrc⟩ : ∃ rc : LoopState → Loop, rc = fun st => { state := st, pending := none, fn, tmps := a.tmps, params := ps, assign, body, defers := b } := ⟨_, rfl⟩
  obtain ⟨V, hV⟩ : ∃ V, (w.alloc (.deferred (some []))).alloc (.loop (rc .ready)) = V := ⟨_, rfl⟩
  have hVs : V.heap.size = b + 2 := by rw [← hV]; simp [hb]
  have hL : V.heap[b + 1]? = some (.loop (rc .ready)) := by
    rw [← hV]; have := World.alloc_heap_new (w.alloc (.deferred (some []))) (.loop (rc .ready)); rwa [World.size_alloc, hb] at this
  have hD : V.heap[b]? = some (.deferred (some [])) := by
    rw [← hV, ← hb]; exact (Below.heap_alloc _ _ _ (by simp)).trans (World.alloc_heap_new w _)
  have hI0 : I [] V := by rw [← hV]; exact hI.alloc _ (hI.alloc _ h0)
  have hbV : Below w0.heap.size w0 V := by
    rw [← hV]; exact hb0.trans ((((Below.refl _ w).alloc (Nat.le_refl _) _).alloc (by simp) _).mono hb0.size)
  rw [hb] at hKb hKa hI hIp hbody hdone
  refine ⟨b + 1, [{ target := .collected b, args := #[] }], V, { target := .fn (.func gf) lb, args := #[.func (.yield (b + 1)) #[] #[]] }, V, gf, #[.func (.yield (b + 1)) #[] #[]] ++ lb, V, ?_, ?_, ?_, ?_, fun _ => h1, ?_⟩
  · rw [← hV, hrc, ← hb]; exact run_enterLoop_outer _ _ _ _ _
  · simp only [resolve, hg]; simp [go_sem]
  · intro f' _; trivial
  · simp [invoke, go_sem, eg]
  refine (hseq (b + 1) (fun pre W => I pre W ∧ W.heap[b + 1]? = some (.loop (rc .ready)) ∧ W.heap[b]? = some (.deferred (some []))) V hbV
    (fun pre A B hJ hs hp => by
      rw [hVs] at hp hs
      exact ⟨hIp pre A B hJ.1 hs hp, (hp.1.block _ (by omega)).trans hJ.2.1, (hp.1.block _ (by omega)).trans hJ.2.2⟩) ?_ ⟨hI0, hL, hD⟩).mono ?_
  · rintro pre x W ⟨hi, hl, hk⟩ hlen hsz
    rw [hVs] at hsz ⊢
    have hy := run_yield (P := P) (args := encs x) hl (by rw [hrc]; exact hps x)
    rw [hrc] at hy
    obtain ⟨Wa, hWa⟩ : ∃ Wa, W.alloc (mk x) = Wa := ⟨_, rfl⟩
    have hsa : Wa.heap.size = W.heap.size + 1 := by rw [← hWa]; simp
    have hna : Wa.heap[W.heap.size]? = some (mk x) := by rw [← hWa]; exact World.alloc_heap_new W _
    have hoa : ∀ k, k < W.heap.size → Wa.heap[k]? = W.heap[k]? := fun k hk => by rw [← hWa]; exact Below.heap_alloc _ _ _ hk
    have hla : Wa.heap[b + 1]? = some (.loop (rc .ready)) := (hoa _ (by omega)).trans hl
    have hia : I pre Wa := by rw [← hWa]; exact hI.alloc _ hi
    have hkpa : Kp W Wa := by rw [← hWa]; exact hKa _ _ (by omega)
    have hlt : b + 1 < Wa.heap.size := by omega
    obtain ⟨W2, hW2⟩ : ∃ W2, Wa.putObj (b + 1) (.loop { rc .ready with state := .busy }) = W2 := ⟨_, rfl⟩
    have hl2 : W2.heap[b + 1]? = some (.loop { rc .ready with state := .busy }) := by rw [← hW2]; exact World.putObj_heap_same hlt
    have ho2 : ∀ k, k ≠ b + 1 → W2.heap[k]? = Wa.heap[k]? := fun k hne => by rw [← hW2]; exact World.putObj_heap_other hne
    have hs2 : W2.heap.size = Wa.heap.size := by rw [← hW2]; simp
    have hkp2 : Kp W W2 := hKt hkpa (by rw [← hW2]; exact hKb _ _ _ _ (by omega) hla rfl rfl)
    have hi2 : I pre W2 := by rw [← hW2]; exact hI.putObj _ hia (by omega) hla rfl
    have has := hassign (b + 1) x W
    rw [hWa] at has
    refine ⟨fn, _, assign, body, hy, roundIn_of_wpIn hfn (has _ ⟨W2, by rw [← hW2]; exact run_beginRound hla (by rw [hrc]), ?_⟩)⟩
    refine wpIn_mono (hbody _ pre x W2 W.heap.size (by omega) hi2 ((ho2 _ (by omega)).trans hna) hlen) ?_
    rintro e a3 W3 hp
    cases e with
    | normal =>
      obtain ⟨hk3, ht3, hkp3, hi3⟩ := hp
      have hl3 := hk3.same _ _ (by omega) hl2 rfl
      have he := run_endRound (P := P) none hl3
      refine ⟨_, _, he, rfl, ⟨hI.putObj _ hi3 (by omega) hl3 rfl, ?_, ?_⟩, hKt (hKt hkp2 hkp3) (hKb _ _ _ _ (by omega) hl3 rfl rfl), ?_, ?_⟩
      · rw [World.putObj_heap_same (Array.getElem?_eq_some_iff.1 hl3).1, hrc]; rfl
      · exact (World.putObj_heap_other (by omega)).trans (hk3.same _ _ (Nat.le_refl _) ((ho2 b (by omega)).trans ((hoa b (by omega)).trans hk)) rfl)
      · refine ⟨by simp; have := hk3.size; omega, fun k _ hB hk0 ho => ?_⟩
        have hklt := (Array.getElem?_eq_some_iff.1 hk0).1
        exact (World.putObj_heap_other (by omega)).trans (hk3.same _ _ (by omega) ((ho2 k (by omega)).trans ((hoa k hklt).trans hk0)) ho)
      · intro k hB1 hB2
        exact (World.putObj_heap_other (by omega)).trans ((ht3 k hB1 hB2).trans ((ho2 k (by omega)).trans (hoa k (by omega))))
    | ret => exact hp.elim
    | exit id => exact hp.elim
    | goto t => exact hp.elim
    | panic ch => exact hp.elim
    | outgrown => exact hp.elim
  · rintro e W2 ⟨⟨v, rfl⟩, xs, hS, hi, hl, hk⟩
    have he := run_endLoop (P := P) hl (by rw [hrc]; simp)
    refine ⟨none, _, by rw [hrc] at he; exact he, hdone _ xs _ (Nat.le_refl _) hS (hI.putObj _ hi (by omega) hl rfl) ((World.putObj_heap_other (by omega)).trans hk)⟩
end Go.Proofs.YtmfmbmlfdlebfaaDoor

/- block.Of: the blocks of steps that aren't too long and differ, or why a step may not be. -/
namespace Go.Proofs.YtmfmbmlfdlebfaaDoor
open Go.RowKit Go.Shelf
attribute [local go_sem] Oper.semAt_some blkV

theorem info_bk : (Tryd.prog.info? 43).map (fun i => (i.zero, i.size, i.bytes)) = some (some (.agg #[.string ⟨#[]⟩, .string ⟨#[]⟩, .int .i64 0]), 3, 40) := by kernel_rfl
theorem blk_len (x : Blk) : (blkCell x).length = 3 := rfl
theorem bk_one (x : Blk) : ∀ u ∈ blkCell x, u.oneCell' = true := by
  intro u hu
  simp only [blkCell, List.mem_cons, List.not_mem_nil, or_false] at hu
  rcases hu with rfl | rfl | rfl <;> rfl
/-- An append whose run is known, within a fence. -/
theorem wpListIn_append_runH {F : Fence} {n : Nat} {P : Program} {w : World} {ops : Array Oper} {rest : List Oper} {o : Oper} {a : Act} {Q : Exit → Act → World → Prop} (s x : Operand) (t : TypeId) (v u v' : Value) (w' : World)
    (hg : o.guard = none) (hop : o.op = Op.call { callee := Callee.builtin Builtin.append, args := #[s, x], argTypes := #[t, t] })
    (hrun : (Builtin.append_ #[t, t] o.type #[v, u]).run P w = .ok v' w') (hs : a.eval s = v) (hx : a.eval x = u)
    (h : wpListIn F n P ops Q rest (a.put o.dst v') w') : wpListIn F n P ops Q (o :: rest) a w := by
  refine wpListIn_plain hg fun K hK => ?_
  unfold Oper.wpIn
  refine ⟨?_, ?_⟩
  · simp [Oper.about, hop, resolve, Target.leads, Sem.run_pure]
  · rw [Oper.semAt_plain F _ _ (by rw [hop]; intro c hc'; cases hc')]
    simp [execOp, hop, resolve, invoke, builtin, hs, hx, hrun, Result.andThen]
    exact hK _ _ h
/-- The blocks that may be among all. -/
def okB (l : List Blk) : List Blk := l.filter (fun b => decide (chkS b = 0))
theorem okB_yes (l : List Blk) (x : Blk) (h : chkS x = 0) : okB (l ++ [x]) = okB l ++ [x] := by simp [okB, h]
theorem okB_no (l : List Blk) (x : Blk) (h : chkS x ≠ 0) : okB (l ++ [x]) = okB l := by simp [okB, h]
theorem okB_len (l : List Blk) : (okB l).length ≤ l.length := List.length_filter_le _ _

def OfPost (l : List St) (w : World) (e : Ending) (w' : World) : Prop :=
  ∃ v, e = .returned (.tuple #[v, .int .i64 (stErr l)]) ∧ w'.ownsRow w.heap.size 43 3 v (ofS l).length (gCells blkCell (ofS l)) ∧ Below w.heap.size w w'

set_option maxRecDepth 100000 in
set_option maxHeartbeats 2000000 in
theorem of_no (u : Value) (l : List St) (w : World) (h : Okw w) (hu : StRuns w u l) (hl : l.length ≤ 1000000) (hf : stFit l) (he : stErr l ≠ 0) : Calls Tryd.prog 42 #[u] w (OfPost l w) := by
  unfold OfPost
  have hof : ofS l = [] := by
    rw [ofS, if_neg]
    intro hg
    exact he (by rw [stErr, hg]; rfl)
  rw [hof]
  have c := check_any l hl hf w u h hu
  obtain ⟨er, her⟩ : ∃ er, stErr l = er := ⟨_, rfl⟩
  rw [her] at c he ⊢
  have C := Lib.hid c
  clear c her
  have h1 : (er == 0) = false := by simpa using he
  go_enter Tryd.func42, Tryd.ntmps42
  go_wp2_with fail
  refine C.out.mono ?_
  rintro e w1 ⟨rfl, hb⟩
  go_wp2
  go_ret2
  exact ⟨_, rfl, World.ownsRow_nil _ _ _ _, hb⟩

set_option maxRecDepth 100000 in
set_option maxHeartbeats 2000000 in
theorem of_yes (u : Value) (L : List St) (w : World) (h : Okw w) (hu : StRuns w u L) (hl : L.length ≤ 1000000) (hf : stFit L) (he : stErr L = 0) : Calls Tryd.prog 42 #[u] w (OfPost L w) := by
  unfold OfPost
  have hg : L.all stGood = true := by
    cases hg : L.all stGood with
    | true => rfl
    | false => rw [stErr, hg] at he; cases he
  have hof := of_filter hg
  rw [he, ← hof]
  have HOF : Hid (((rowsP L).map blkOf).filter (fun b => decide (chkS b = 0)) = okB ((rowsP L).map blkOf)) := Lib.hid rfl
  rw [HOF.out]
  clear hof HOF
  have c := check_any L hl hf w u h hu
  rw [he] at c
  have C := Lib.hid c
  clear c he
  obtain ⟨A, cc, rfl, hcc, ⟨hm, hAn⟩, hxx⟩ := hu
  have hu : StRuns w (.slice A L.length cc) L := ⟨A, cc, rfl, hcc, ⟨hm, hAn⟩, hxx⟩
  obtain ⟨N, hN⟩ : ∃ N, L.length = N := ⟨_, rfl⟩
  obtain ⟨b, o, hA⟩ : ∃ b o, 0 < N → A = some ⟨b, o, none⟩ := by
    by_cases h0 : 0 < L.length
    · obtain ⟨b, o, e, _⟩ := hxx h0
      exact ⟨b, o, fun _ => e⟩
    · exact ⟨0, 0, fun h => absurd (hN ▸ h) h0⟩
  rw [hN] at hu hl hcc ⊢
  clear hxx hAn
  refine (callsIn_wide (n := 6)).1 ?_
  refine callsIn_of_wp_marks Tryd.func42 rfl trivial ?_ rfl
  simp only [Tryd.ntmps42, List.size_toArray, List.length_cons, List.length_nil, Nat.reduceAdd, Nat.reduceSub, Array.replicate_succ, Array.replicate_zero, List.push_toArray, List.append_toArray, List.nil_append, List.cons_append]
  gi_wp2_with fail
  refine ⟨trivial, ?_⟩
  gi_at_call 53
  rw [hN] at C
  refine (callsIn_wide.2 C.out).mono ?_
  rintro e w0 ⟨rfl, hbd⟩
  gi_wp2_with (refine ⟨trivial, ?_⟩; gi_at_call 54; refine (callsIn_wide.2 (blocksFn_any _ _ _ _)).mono ?_; rintro e w' ⟨rfl, rfl⟩)
  have hw0 := hbd.size
  have bL := Boxed.new w0 22 (.slice none 0 0)
  have bS := Boxed.new (w0.alloc (.cells #[.slice none 0 0] 22)) 60 (.slice A N cc)
  rw [World.size_alloc] at bS
  have hB0 : Below w.heap.size w ((w0.alloc (.cells #[.slice none 0 0] 22)).alloc (.cells #[.slice A N cc] 60)) := (hbd.alloc hw0 _).alloc (by simp; omega) _
  refine wp_range_box (by decide) (gf := 71) (lb := #[.pointer (some ⟨w0.heap.size + 1, 0, none⟩)]) rfl (enters_of Tryd.func71 (by kernel_rfl) rfl)
    (biter5 (w0.heap.size + 1) w.heap.size A N cc b o L hN hl hA hf w h rfl hu _ (by simp; omega) hB0 (by simp) bS.cell) Keep.trans (keepK_b (by simp; omega) (by simp)) (fun W o hW => Keep.of_below ((Below.refl _ W).alloc (Nat.le_refl _) _) (by simp at hW; omega) (by simp at hW; omega)) (Below.refl _ _) (fun _ => rfl)
    (fun (pre : List BkI) W => (∃ v, Boxed W w0.heap.size 22 v ∧ W.ownsRow w.heap.size 43 3 v (okB (bkL pre)).length (gCells blkCell (okB (bkL pre))) ∧ ∀ g, v.ownBlock = some g → g ≠ w0.heap.size + 1 ∧ (g < w0.heap.size + 4 ∨ w0.heap.size + 6 ≤ g)) ∧ Boxed W (w0.heap.size + 1) 60 (.slice A N cc) ∧ Below w.heap.size w W)
    ?own ?priv ⟨⟨_, bL.alloc _, World.ownsRow_nil _ _ _ _, by simp [Value.ownBlock]⟩, bS, hB0⟩
    (fun x k => { tmps := #[.slice A N cc, undef, .slice none 0 0, .int .i64 0, .int .i64 0, .pointer (some ⟨w0.heap.size, 0, none⟩), .pointer (some ⟨k, 0, none⟩), .slice A N cc, .int .i64 0, .int .i64 0, .bool false, undef, .slice A N cc, .func (.func 71) #[] #[.pointer (some ⟨w0.heap.size + 1, 0, none⟩)], .agg #[.string x.val.1, .string x.val.2.1, .int .i64 x.val.2.2], undef, undef, undef, undef, undef, undef, undef, undef], defers := [] })
    (fun x => .cells (blkCell x.val).toArray 43)
    ?assign ?body ?done
  case own =>
    intro pre X Y row hx hg hr
    obtain ⟨⟨v, hv1, hrow, hgv⟩, hS, hB⟩ := hx
    have hne : ∀ k, (∃ cs t, X.heap[k]? = some (.cells cs t (0, 0))) → some k ≠ row := by
      rintro k ⟨cs, t, hk⟩ e
      obtain ⟨_, o, ho, hc⟩ := hr k e.symm
      rw [hk] at ho; cases ho; cases hc
    refine ⟨⟨v, hv1.kept hg (hne _ ⟨_, _, hv1⟩), hrow.kept hg ?_, hgv⟩, hS.kept hg (hne _ ⟨_, _, hS⟩), ⟨hg.os.trans hB.os, hg.tape.trans hB.tape, hg.output.trans hB.output, Nat.le_trans hB.size hg.size, fun k hk => (hg.block k (Nat.lt_of_lt_of_le hk hB.size) (fun e => by have := (hr k e.symm).1; simp at this; omega)).trans (hB.block k hk)⟩⟩
    rcases hrow.2 with ⟨rfl, _⟩ | ⟨g', cap, cur, rfl, _, hgb, _⟩
    · exact .inl rfl
    · exact .inr (fun e => hne g' ⟨_, _, hgb⟩ (by simpa [Value.ownBlock] using e))
  case priv =>
    rintro pre X Y ⟨⟨v, hv1, hrow, hgv⟩, hS, hB⟩ hsz hp
    simp only [World.size_alloc] at hsz hp
    refine ⟨⟨v, (hp.1.block _ (by omega)).trans hv1, ⟨hrow.1, ?_⟩, hgv⟩, (hp.1.block _ (by omega)).trans hS, hB.trans (hp.1.mono (by omega))⟩
    rcases hrow.2 with h0 | ⟨g', cap, cur, rfl, h1, hgb, h2⟩
    · exact .inl h0
    · refine .inr ⟨g', cap, cur, rfl, h1, ?_, h2⟩
      rcases (hgv g' rfl).2 with h3 | h3
      · exact (hp.1.block _ (by omega)).trans hgb
      · exact hp.2 g' _ (by omega) hgb rfl
  case assign =>
    intro l x W K hK
    gi_wp2
    exact hK
  case body =>
    rintro l pre x W k hk0 ⟨⟨v, hv1, hrow, hgv⟩, hS, hB⟩ hkx hlt
    simp only [World.size_alloc] at hk0
    have hkl := (Array.getElem?_eq_some_iff.1 hkx).1
    obtain ⟨q1, q2⟩ := x.property
    have c1 := chk_any x.val.1 x.val.2.1 x.val.2.2 W (h.below hB) (by omega) (by omega)
    have C1 := Lib.hid c1; clear c1
    have p0 : W.cell? ⟨k, 0, none⟩ = some (.string x.val.1) := by simp [World.cell?, hkx, blkCell]
    have p1 : W.cell? ⟨k, 1, none⟩ = some (.string x.val.2.1) := by simp [World.cell?, hkx, blkCell]
    have p2 : W.cell? ⟨k, 2, none⟩ = some (.int .i64 x.val.2.2) := by simp [World.cell?, hkx, blkCell]
    obtain ⟨er, her⟩ : ∃ z, chkS (x.val.1, x.val.2.1, x.val.2.2) = z := ⟨_, rfl⟩
    rw [her] at C1
    have her' : chkS x.val = er := her
    gi_wp2_with fail
    refine ⟨trivial, ?_⟩
    gi_at_call 43
    refine (CallsIn.inRound l (callsIn_wide.2 C1.out)).mono ?_
    rintro e w1 ⟨rfl, hb1⟩
    have hs1 := hb1.size
    have hv1w : Boxed w1 w0.heap.size 22 v := (hb1.block _ (by omega)).trans hv1
    have hS1 : Boxed w1 (w0.heap.size + 1) 60 (.slice A N cc) := (hb1.block _ (by omega)).trans hS
    have hrow1 := own_below hrow hb1
    have hB1 : Below w.heap.size w w1 := hB.trans (hb1.mono hB.size)
    have hkp1 : Keep w.heap.size (w0.heap.size + 1) W w1 := Keep.of_below hb1 hB.size (by omega)
    have hkt1 : KeepsTwo (w0.heap.size + 1 + 1 + 2) W w1 := fun j h1 h2 => hb1.block j (by omega)
    by_cases hz : er = 0
    · subst hz
      have hle := okB_len (bkL pre)
      have hbl : (bkL pre).length = pre.length := by simp [bkL]
      have hx1 : w1.heap[k]? = some (.cells (blkCell x.val).toArray 43 (0, 0)) := (hb1.block k hkl).trans hkx
      have r0 : w1.cell? ⟨k, 0, none⟩ = some (.string x.val.1) := by simp [World.cell?, hx1, blkCell]
      have r1 : w1.cell? ⟨k, 1, none⟩ = some (.string x.val.2.1) := by simp [World.cell?, hx1, blkCell]
      have r2 : w1.cell? ⟨k, 2, none⟩ = some (.int .i64 x.val.2.2) := by simp [World.cell?, hx1, blkCell]
      obtain ⟨v', w2, hrun, hown', hgrow, hat⟩ := append_one (P := Tryd.prog) blk_len bk_one info_bk rfl (by decide) (by decide) Tryd.underlying22 w1 w.heap.size v _ _ hrow1 x.val hB1.size (by omega)
      obtain ⟨g', cap', rfl⟩ := ownsRow_succ hown'
      have hS2 := ((hS1.alloc (.cells (blkCell x.val).toArray 43)).kept hgrow (fun e => (hgv _ e.symm).1 rfl)).other (by omega : w0.heap.size + 1 ≠ w0.heap.size) (.slice (some ⟨g', 0, none⟩) ((okB (bkL pre)).length + 1) cap')
      obtain ⟨hv1', hv2, hr2, hk2, hb2⟩ := hv1w.appended (by decide) hrow1 hB1.size (by omega) hown' hgrow
      have hc1 := hv1w.cell
      have hc2 := hv1'.cell
      have hf2 := hv1'.frozen
      have HR := Lib.hid hrun
      clear hrun
      gi_wp2_with (gi_at_builtin; refine wpListIn_append_runH _ _ _ _ _ _ _ rfl rfl HR.out rfl rfl ?_)
      refine ⟨(kf_below hb1).trans (hk2.from _), ?_, hkp1.trans ⟨hb2, Eq.trans hS2 (Eq.symm hS1)⟩, ⟨_, hv2, ?_, ?_⟩, hS2, hB1.trans hb2⟩
      · intro j h1 h2
        simp only [World.size_alloc] at h1 h2
        exact (Below.heap_setCell _ _ _ j (by show j ≠ w0.heap.size; omega)).trans ((hgrow.block j (by simp; omega) (fun e => by have := (hgv j e.symm).2; omega)).trans ((Below.heap_alloc _ _ _ (by omega)).trans (hb1.block j (by omega))))
      · rw [bkL_snoc, okB_yes _ _ her', gCells_snoc]
        simpa using hr2
      · intro g hg
        obtain rfl : g' = g := by simpa [Value.ownBlock] using hg
        rcases hat with h3 | h3
        · exact hgv g' (by rw [← h3]; rfl)
        · have : g' = w1.heap.size + 1 := by simpa [Value.ownBlock] using h3
          omega
    · have hz' : (er == 0) = false := by simpa using hz
      gi_wp2
      exact ⟨kf_below hb1, by simpa using hkt1, hkp1, ⟨v, hv1w, by rw [bkL_snoc, okB_no _ _ (by rw [her']; exact hz)]; exact hrow1, hgv⟩, hS1, hB1⟩
  case done =>
    rintro D ys W hD hys ⟨⟨v, hv1, hrow, _⟩, hS, hB⟩ hK
    have hc := hv1.cell
    gi_wp2
    refine ⟨by simp, .inl ⟨_, _, rfl, run_takeDeferred hK, ?_⟩⟩
    refine ⟨_, results_tmp2 rfl _ _ _, ?_⟩
    rw [hys] at hrow
    exact ⟨v, rfl, ownsRow_putObj (W := W) hrow _ hK rfl, hB.trans (belowK_b (w := w) (Nat.le_refl _) W D _ _ (by simp at hD; omega) hK rfl rfl)⟩

theorem of_own (u : Value) (l : List St) (w : World) (h : Okw w) (hu : StRuns w u l) (hl : l.length ≤ 1000000) (hf : stFit l) : Calls Tryd.prog 42 #[u] w (OfPost l w) := by
  by_cases he : stErr l = 0
  · exact of_yes u l w h hu hl hf he
  · exact of_no u l w h hu hl hf he
end Go.Proofs.YtmfmbmlfdlebfaaDoor

/- block.Long: how many blocks of steps are too long, or why a step may not be. -/
namespace Go.Proofs.YtmfmbmlfdlebfaaDoor
open Go.RowKit Go.Shelf
attribute [local go_sem] Oper.semAt_some blkV

/-- How many are too long. -/
def lgB (l : List Blk) : Nat := (l.filter (fun b => decide (chkS b = 5))).length
theorem lgB_yes (l : List Blk) (x : Blk) (h : chkS x = 5) : lgB (l ++ [x]) = lgB l + 1 := by simp [lgB, h]
theorem lgB_no (l : List Blk) (x : Blk) (h : chkS x ≠ 5) : lgB (l ++ [x]) = lgB l := by simp [lgB, h]
theorem lgB_len (l : List Blk) : lgB l ≤ l.length := List.length_filter_le _ _
end Go.Proofs.YtmfmbmlfdlebfaaDoor

/- errataref05.Long, Of, Pair, at any steps. -/
namespace Go.Proofs.YtmfmbmlfdlebfaaDoor
open Go.RowKit Go.Shelf

set_option maxRecDepth 100000 in
set_option maxHeartbeats 4000000 in
theorem refOf_any (u : Value) (l : List St) (w : World) (hu : StRuns w u l) (hl : l.length ≤ 1000000) :
    Calls Tryd.prog 49 #[u] w fun e w' => ∃ v, e = .returned (.tuple #[v, .int .i64 (stErr l)]) ∧ BRuns w' v (ofS l) ∧ Below w.heap.size w w' := by
  cases hg : l.all stGood with
  | true =>
    rw [show stErr l = 0 by rw [stErr, hg]; rfl]
    exact refOf_ok u l w hu hl hg
  | false =>
    rw [show stErr l = 7 by rw [stErr, hg]; rfl, show ofS l = [] by rw [ofS, hg]; rfl]
    have cc := refCheck_any u l w hu
    rw [hg] at cc
    simp only [Bool.false_eq_true, if_false] at cc
    obtain ⟨Au, cu, rfl, _, _, _⟩ := hu
    go_enter Tryd.func49, Tryd.ntmps49
    go_wp2_with fail
    refine cc.mono ?_
    rintro e w1 ⟨rfl, b1⟩
    have B1 := Lib.hid b1; clear b1 cc
    go_wp2
    go_ret2
    exact ⟨_, rfl, GRuns.nil_ _ _ _, B1.out⟩
set_option maxRecDepth 100000 in
set_option maxHeartbeats 4000000 in
theorem refPair_any (s t : ByteArray) (w : World) (hs : s.size * 4 ≤ 140737488355328) (ht : t.size * 4 ≤ 140737488355328) :
    Calls Tryd.prog 40 #[.string s, .string t] w fun e w' => ∃ v, e = .returned (.tuple #[v, .int .i64 (tokErr2 s.data.toList t.data.toList)]) ∧ BRuns w' v (ofS (stepsS s.data.toList t.data.toList)) ∧ Below w.heap.size w w' := by
  have c1 := refSteps_any s t w hs ht
  by_cases hT : tokErr2 s.data.toList t.data.toList = 0
  · obtain ⟨_, _, f3, _, _, f6, _⟩ := steps_facts _ _ hT
    have c2 := fun (w : World) (u : Value) (hu : StRuns w u (stepsS s.data.toList t.data.toList)) => refOf_any u _ w hu (by omega)
    rw [hT] at c1 ⊢
    simp only [f3] at c2
    clear f3 f6 hT
    obtain ⟨L, hL⟩ : ∃ L, stepsS s.data.toList t.data.toList = L := ⟨_, rfl⟩
    simp only [hL] at c1 c2 ⊢
    clear hL
    have C1 := Lib.hid c1; have C2 := Lib.hid c2
    clear c1 c2
    go_enter Tryd.func40, Tryd.ntmps40
    go_wp2_with fail
    refine C1.out.mono ?_
    rintro e w1 ⟨v1, rfl, r1, b1⟩
    obtain ⟨A1, k1, rfl, _, _, _⟩ := id r1
    have R1 := Lib.hid r1; have B1 := Lib.hid b1
    clear r1 b1
    go_wp2_with fail
    refine (C2.out _ _ R1.out).mono ?_
    rintro e w2 ⟨v2, rfl, r2, b2⟩
    obtain ⟨A2, k2, rfl⟩ := r2.slice
    have R2 := Lib.hid r2; have B2 := Lib.hid (B1.out.trans (b2.mono B1.out.size))
    clear r2 b2
    go_wp2
    go_ret2
    exact ⟨_, rfl, R2.out, B2.out⟩
  · have hz : stepsS s.data.toList t.data.toList = [] := by rw [stepsS, if_neg hT]
    rw [hz] at c1 ⊢
    rw [show ofS [] = [] by rw [ofS, rowsP_nil]; rfl]
    obtain ⟨er, her⟩ : ∃ x, tokErr2 s.data.toList t.data.toList = x := ⟨_, rfl⟩
    rw [her] at c1 hT ⊢
    have b9 : (er != 0) = true := bne_iff_ne.2 hT
    clear her hz
    have C1 := Lib.hid c1; clear c1
    go_enter Tryd.func40, Tryd.ntmps40
    go_wp2_with fail
    refine C1.out.mono ?_
    rintro e w1 ⟨v1, rfl, r1, b1⟩
    obtain ⟨A1, k1, rfl, _, _, _⟩ := id r1
    have B1 := Lib.hid b1
    clear r1 b1
    go_wp2
    go_ret2
    exact ⟨_, rfl, GRuns.nil_ _ _ _, B1.out⟩
end Go.Proofs.YtmfmbmlfdlebfaaDoor

