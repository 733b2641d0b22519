/- Texts that several proofs of this seat share, one behind the other: TSeq ZSeq ZBld. -/
import Derived.RangeFuncNested
import Derived.RangeFuncLeaves
import Derived.Test.YtnjhbblhlgpgdaaDoorPk1
import Derived.Test.YtnjhbblhlgpgdaaDoorPk8
/- A loop over an iterator that itself loops over another one and hands its elements on: what such an iterator promises, and the law of the loop over it. -/
namespace Go.Proofs.YtnjhbblhlgpgdaaDoor
open Go.RowKit Go.Shelf

/-- What such an iterator does between two rounds: whatever lay below B lies as it lay; of what lies from B on it turns its own two boxes and what holds no cells. -/
def Priv (B : Nat) (W1 W2 : World) : Prop := Below B W1 W2 ∧ ∀ k o, B + 2 ≤ k → W1.heap[k]? = some o → o.isCells = true → W2.heap[k]? = some o
theorem Priv.of_below {B : Nat} {W1 W2 : World} (h : Below W1.heap.size W1 W2) (hB : B ≤ W1.heap.size) : Priv B W1 W2 :=
  ⟨h.mono hB, fun k _ _ hk _ => (h.block k (Array.getElem?_eq_some_iff.1 hk).1).trans hk⟩
theorem Priv.of_grown {B : Nat} {W1 W2 : World} {row : Option Nat} (h : W1.grownBy W2 row) (hr : ∀ r, row = some r → B + 2 ≤ r ∧ ∃ o : Obj, W1.heap[r]? = some o ∧ o.isCells = false) (hB : B ≤ W1.heap.size) : Priv B W1 W2 :=
  ⟨⟨h.os, h.tape, h.output, h.size, fun k hk => h.block k (Nat.lt_of_lt_of_le hk hB) (fun e => by have := (hr k e.symm).1; omega)⟩,
   fun k _ _ hk ho => (h.block k (Array.getElem?_eq_some_iff.1 hk).1 (fun e => by
     obtain ⟨_, o', ho', hc⟩ := hr k e.symm
     rw [hk] at ho'; cases ho'; rw [ho] at hc; cases hc)).trans hk⟩

/-- The two boxes are kept. -/
def KeepsTwo (B : Nat) (W W' : World) : Prop := ∀ k, B ≤ k → k < B + 2 → W'.heap[k]? = W.heap[k]?

/-- The contract of such an iterator, where no round leaves early. -/
def SeqT {α : Type} (n : Nat) (P : Program) (g : Nat) (lb : Array Value) (encs : α → Array Value) (Kp : World → World → Prop) (S : List α → Prop) (N : Nat) (w : World) : Prop :=
  ∀ (l : Nat) (J : List α → World → Prop) (W : World), Below w.heap.size w W → (∀ pre W1 W2, J pre W1 → W.heap.size ≤ W1.heap.size → Priv W.heap.size W1 W2 → J pre W2) →
    (∀ pre x W1, J pre W1 → pre.length < N → W.heap.size + 2 ≤ W1.heap.size → YieldAt Fence.wide (n - 1) P l (encs x) W1 fun e W' =>
      e = .returned (.bool true) ∧ J (pre ++ [x]) W' ∧ Kp W1 W' ∧ KeepsFrom W.heap.size W1 W' ∧ KeepsTwo W.heap.size W1 W') →
    J [] W →
    CallsIn Fence.wide n P g (#[.func (.yield l) #[] #[]] ++ lb) W fun e W' => (∃ v, e = .returned v) ∧ ∃ xs, S xs ∧ J xs W'

theorem yield_deep {m m' l l' : Nat} {P : Program} {args : Array Value} {W : World} {R : Ending → World → Prop} (h : YieldAt Fence.wide m P l args W R) : YieldAt (Fence.wide.inRound l') m' P l args W R := by
  obtain ⟨fn, tmps, assign, body, hy, hR⟩ := h
  exact ⟨fn, tmps, assign, body, hy, hR.1, fun c cs _ => hR.2 c cs (room_wide _)⟩

/-- How the body of a round is left. -/
def privPost {α : Type} (b : Nat) (Kp : World → World → Prop) (I : List α → World → Prop) (xs : List α) (W : World) : Exit → Act → World → Prop
  | .normal, _, W' => KeepsFrom b W W' ∧ KeepsTwo (b + 2) W W' ∧ Kp W W' ∧ I xs W'
  | _, _, _ => False

theorem wp_range_priv {α : Type} {n : Nat} {P : Program} {g : Operand} {ps : Array Tmp} {assign body : Code} {Q : Exit → Act → World → Prop} {a : Act} {w : World}
    (h1 : 1 ≤ n) {gf : Nat} {lb : Array Value} (hg : a.eval g = .func (.func gf) #[] lb) (eg : ∀ args w, (callFunc gf args).run P w = .ok (.enter gf args) w)
    {encs : α → Array Value} {Kp : World → World → Prop} {S : List α → Prop} {N : Nat} {w0 : World} (hseq : SeqT (n - 1) P gf lb encs Kp S N w0)
    (hKt : ∀ {A B C : World}, Kp A B → Kp B C → Kp A C) (hKb : ∀ (W : World) (l : Nat) (o o' : Obj), w.heap.size ≤ l → W.heap[l]? = some o → o.isCells = false → o.isWalk = false → Kp W (W.putObj l o')) (hb0 : Below w0.heap.size w0 w) (hps : ∀ x, (encs x).size = ps.size)
    (I : List α → World → Prop) (hI : OwnFrom w.heap.size I) (hIp : ∀ pre W1 W2, I pre W1 → w.heap.size + 2 ≤ W1.heap.size → Priv (w.heap.size + 2) W1 W2 → I pre W2) (h0 : I [] w) (a₁ : α → Act)
    (hassign : ∀ (l : Nat) (x : α) (W : World) (K : Act → World → Prop), K (a₁ x) W →
      assign.wpIn (Fence.wide.inRound l) (n - 1 - 1) P (Exit.then K (fun _ _ _ => False)) { tmps := (ps.zip (encs x)).foldl (fun t (p, v) => t.setIfInBounds p v) a.tmps, defers := [] } W)
    (hbody : ∀ (l : Nat) (pre : List α) (x : α) (W : World), w.heap.size + 4 ≤ W.heap.size → I pre W → pre.length < N → body.wpIn (Fence.wide.inRound l) (n - 1 - 1) P (privPost w.heap.size Kp I (pre ++ [x]) W) (a₁ x) W)
    (hdone : ∀ (D : Nat) (xs : List α) (W : World), w.heap.size ≤ D → S xs → I xs W → W.heap[D]? = some (.deferred (some [])) → Q .normal { a with defers := { target := .collected D, args := #[] } :: a.defers } W) :
    (Code.rangeFunc g ps assign body).wpIn Fence.wide n P Q a w := by
  refine wpIn_rangeFunc fun fn hfn => ?_
  obtain ⟨b, hb⟩ : ∃ b, w.heap.size = b := ⟨_, rfl⟩
  obtain ⟨rc, hrc⟩ : ∃ rc : LoopState → Loop, rc = fun st => { state := st, pending := none, fn, tmps := a.tmps, params := ps, assign, body, defers := b } := ⟨_, rfl⟩
  obtain ⟨V, hV⟩ : ∃ V, (w.alloc (.deferred (some []))).alloc (.loop (rc .ready)) = V := ⟨_, rfl⟩
  have hVs : V.heap.size = b + 2 := by rw [← hV]; simp [hb]
  have hL : V.heap[b + 1]? = some (.loop (rc .ready)) := by
    rw [← hV]; have := World.alloc_heap_new (w.alloc (.deferred (some []))) (.loop (rc .ready)); rwa [World.size_alloc, hb] at this
  have hD : V.heap[b]? = some (.deferred (some [])) := by
    rw [← hV, ← hb]; exact (Below.heap_alloc _ _ _ (by simp)).trans (World.alloc_heap_new w _)
  have hI0 : I [] V := by rw [← hV]; exact hI.alloc _ (hI.alloc _ h0)
  have hbV : Below w0.heap.size w0 V := by
    rw [← hV]; exact hb0.trans ((((Below.refl _ w).alloc (Nat.le_refl _) _).alloc (by simp) _).mono hb0.size)
  rw [hb] at hKb hI hIp hbody hdone
  refine ⟨b + 1, [{ target := .collected b, args := #[] }], V, { target := .fn (.func gf) lb, args := #[.func (.yield (b + 1)) #[] #[]] }, V, gf, #[.func (.yield (b + 1)) #[] #[]] ++ lb, V, ?_, ?_, ?_, ?_, fun _ => h1, ?_⟩
  · rw [← hV, hrc, ← hb]; exact run_enterLoop_outer _ _ _ _ _
  · simp only [resolve, hg]; simp [go_sem]
  · intro f' _; trivial
  · simp [invoke, go_sem, eg]
  refine (hseq (b + 1) (fun pre W => I pre W ∧ W.heap[b + 1]? = some (.loop (rc .ready)) ∧ W.heap[b]? = some (.deferred (some []))) V hbV
    (fun pre A B hJ hs hp => by
      rw [hVs] at hp hs
      exact ⟨hIp pre A B hJ.1 hs hp, (hp.1.block _ (by omega)).trans hJ.2.1, (hp.1.block _ (by omega)).trans hJ.2.2⟩) ?_ ⟨hI0, hL, hD⟩).mono ?_
  · rintro pre x W ⟨hi, hl, hk⟩ hlen hsz
    rw [hVs] at hsz ⊢
    have hlt : b + 1 < W.heap.size := by omega
    have hy := run_yield (P := P) (args := encs x) hl (by rw [hrc]; exact hps x)
    rw [hrc] at hy
    obtain ⟨W2, hW2⟩ : ∃ W2, W.putObj (b + 1) (.loop { rc .ready with state := .busy }) = W2 := ⟨_, rfl⟩
    have hl2 : W2.heap[b + 1]? = some (.loop { rc .ready with state := .busy }) := by rw [← hW2]; exact World.putObj_heap_same hlt
    have ho2 : ∀ k, k ≠ b + 1 → W2.heap[k]? = W.heap[k]? := fun k hne => by rw [← hW2]; exact World.putObj_heap_other hne
    have hs2 : W2.heap.size = W.heap.size := by rw [← hW2]; simp
    have hkp2 : Kp W W2 := by rw [← hW2]; exact hKb _ _ _ _ (by omega) hl rfl rfl
    have hi2 : I pre W2 := by rw [← hW2]; exact hI.putObj _ hi (by omega) hl rfl
    refine ⟨fn, _, assign, body, hy, roundIn_of_wpIn hfn (hassign _ x W _ ⟨W2, by rw [← hW2]; exact run_beginRound hl (by rw [hrc]), ?_⟩)⟩
    refine wpIn_mono (hbody _ pre x W2 (by omega) hi2 hlen) ?_
    rintro e a3 W3 hp
    cases e with
    | normal =>
      obtain ⟨hk3, ht3, hkp3, hi3⟩ := hp
      have hl3 := hk3.same _ _ (by omega) hl2 rfl
      have he := run_endRound (P := P) none hl3
      refine ⟨_, _, he, rfl, ⟨hI.putObj _ hi3 (by omega) hl3 rfl, ?_, ?_⟩, hKt (hKt hkp2 hkp3) (hKb _ _ _ _ (by omega) hl3 rfl rfl), ?_, ?_⟩
      · rw [World.putObj_heap_same (Array.getElem?_eq_some_iff.1 hl3).1, hrc]; rfl
      · exact (World.putObj_heap_other (by omega)).trans (hk3.same _ _ (Nat.le_refl _) ((ho2 b (by omega)).trans hk) rfl)
      · refine ⟨by simp; have := hk3.size; omega, fun k _ hB hk0 ho => ?_⟩
        exact (World.putObj_heap_other (by omega)).trans (hk3.same _ _ (by omega) ((ho2 k (by omega)).trans hk0) ho)
      · intro k hB1 hB2
        exact (World.putObj_heap_other (by omega)).trans ((ht3 k hB1 hB2).trans (ho2 k (by omega)))
    | ret => exact hp.elim
    | exit id => exact hp.elim
    | goto t => exact hp.elim
    | panic ch => exact hp.elim
    | outgrown => exact hp.elim
  · rintro e W2 ⟨⟨v, rfl⟩, xs, hS, hi, hl, hk⟩
    have he := run_endLoop (P := P) hl (by rw [hrc]; simp)
    refine ⟨none, _, by rw [hrc] at he; exact he, hdone _ xs _ (Nat.le_refl _) hS (hI.putObj _ hi (by omega) hl rfl) ((World.putObj_heap_other (by omega)).trans hk)⟩
end Go.Proofs.YtnjhbblhlgpgdaaDoor

/- A loop over an iterator that turns a box of its own (or none) between two rounds and hands a known row of elements on, where no round leaves early: its contract, and two laws. -/
namespace Go.Proofs.YtnjhbblhlgpgdaaDoor
open Go.RowKit Go.Shelf
set_option linter.unusedVariables false

/-- The contract of such an iterator: what it turns is its row alone, what it hands on is L. -/
def SeqB {α : Type} (n : Nat) (P : Program) (g : Nat) (lb : Array Value) (encs : α → Array Value) (L : List α) (Kp : World → World → Prop) (row : Option Nat) (w : World) : Prop :=
  ∀ (l : Nat) (J : List α → World → Prop) (W : World), Below w.heap.size w W → (∀ pre W1 W2, J pre W1 → W.heap.size ≤ W1.heap.size → W1.grownBy W2 row → J pre W2) →
    (∀ pre x W1, J pre W1 → pre ++ [x] <+: L → W.heap.size ≤ W1.heap.size → YieldAt Fence.wide (n - 1) P l (encs x) W1 fun e W' =>
      e = .returned (.bool true) ∧ J (pre ++ [x]) W' ∧ Kp W1 W' ∧ W1.heap.size ≤ W'.heap.size) →
    J [] W →
    CallsIn Fence.wide n P g (#[.func (.yield l) #[] #[]] ++ lb) W fun e W' => (∃ v, e = .returned v) ∧ J L W'
/-- How the body of a round is left. -/
def seqPost {α : Type} (b : Nat) (Kp : World → World → Prop) (I : List α → World → Prop) (xs : List α) (W : World) : Exit → Act → World → Prop
  | .normal, _, W' => KeepsFrom b W W' ∧ Kp W W' ∧ I xs W'
  | _, _, _ => False

theorem wp_range_seqB {α : Type} {n : Nat} {P : Program} {g : Operand} {ps : Array Tmp} {assign body : Code} {Q : Exit → Act → World → Prop} {a : Act} {w : World}
    (h1 : 1 ≤ n) {gf : Nat} {lb : Array Value} (hg : a.eval g = .func (.func gf) #[] lb) (eg : ∀ args w, (callFunc gf args).run P w = .ok (.enter gf args) w)
    {encs : α → Array Value} {L : List α} {Kp : World → World → Prop} {row : Option Nat} {w0 : World} (hseq : SeqB (n - 1) P gf lb encs L Kp row w0) (hrow : ∀ r, row = some r → r < w.heap.size)
    (hKt : ∀ {A B C : World}, Kp A B → Kp B C → Kp A C) (hKb : ∀ (W : World) (l : Nat) (o o' : Obj), w.heap.size ≤ l → W.heap[l]? = some o → o.isCells = false → o.isWalk = false → Kp W (W.putObj l o')) (hb0 : Below w0.heap.size w0 w) (hps : ∀ x, (encs x).size = ps.size)
    (I : List α → World → Prop) (hI : OwnFrom w.heap.size I) (hIp : ∀ pre W1 W2, I pre W1 → w.heap.size + 2 ≤ W1.heap.size → W1.grownBy W2 row → I pre W2) (h0 : I [] w) (a₁ : α → Act)
    (hassign : ∀ (l : Nat) (x : α) (W : World) (K : Act → World → Prop), K (a₁ x) W →
      assign.wpIn (Fence.wide.inRound l) (n - 1 - 1) P (Exit.then K (fun _ _ _ => False)) { tmps := (ps.zip (encs x)).foldl (fun t (p, v) => t.setIfInBounds p v) a.tmps, defers := [] } W)
    (hbody : ∀ (l : Nat) (pre : List α) (x : α) (W : World), w.heap.size + 2 ≤ W.heap.size → I pre W → pre ++ [x] <+: L → body.wpIn (Fence.wide.inRound l) (n - 1 - 1) P (seqPost w.heap.size Kp I (pre ++ [x]) W) (a₁ x) W)
    (hdone : ∀ (D : Nat) (W : World), w.heap.size ≤ D → I L W → W.heap[D]? = some (.deferred (some [])) → Q .normal { a with defers := { target := .collected D, args := #[] } :: a.defers } W) :
    (Code.rangeFunc g ps assign body).wpIn Fence.wide n P Q a w := by
  refine wpIn_rangeFunc fun fn hfn => ?_
  obtain ⟨b, hb⟩ : ∃ b, w.heap.size = b := ⟨_, rfl⟩
  obtain ⟨rc, hrc⟩ : ∃ rc : LoopState → Loop, rc = fun st => { state := st, pending := none, fn, tmps := a.tmps, params := ps, assign, body, defers := b } := ⟨_, rfl⟩
  obtain ⟨V, hV⟩ : ∃ V, (w.alloc (.deferred (some []))).alloc (.loop (rc .ready)) = V := ⟨_, rfl⟩
  have hVs : V.heap.size = b + 2 := by rw [← hV]; simp [hb]
  have hL : V.heap[b + 1]? = some (.loop (rc .ready)) := by
    rw [← hV]; have := World.alloc_heap_new (w.alloc (.deferred (some []))) (.loop (rc .ready)); rwa [World.size_alloc, hb] at this
  have hD : V.heap[b]? = some (.deferred (some [])) := by
    rw [← hV, ← hb]; exact (Below.heap_alloc _ _ _ (by simp)).trans (World.alloc_heap_new w _)
  have hI0 : I [] V := by rw [← hV]; exact hI.alloc _ (hI.alloc _ h0)
  have hbV : Below w0.heap.size w0 V := by
    rw [← hV]; exact hb0.trans ((((Below.refl _ w).alloc (Nat.le_refl _) _).alloc (by simp) _).mono hb0.size)
  rw [hb] at hKb hI hIp hbody hdone hrow
  refine ⟨b + 1, [{ target := .collected b, args := #[] }], V, { target := .fn (.func gf) lb, args := #[.func (.yield (b + 1)) #[] #[]] }, V, gf, #[.func (.yield (b + 1)) #[] #[]] ++ lb, V, ?_, ?_, ?_, ?_, fun _ => h1, ?_⟩
  · rw [← hV, hrc, ← hb]; exact run_enterLoop_outer _ _ _ _ _
  · simp only [resolve, hg]; simp [go_sem]
  · intro f' _; trivial
  · simp [invoke, go_sem, eg]
  refine (hseq (b + 1) (fun pre W => I pre W ∧ W.heap[b + 1]? = some (.loop (rc .ready)) ∧ W.heap[b]? = some (.deferred (some []))) V hbV
    (fun pre A B hJ hs hp => by
      rw [hVs] at hs
      exact ⟨hIp pre A B hJ.1 hs hp, (hp.block _ (Array.getElem?_eq_some_iff.1 hJ.2.1).1 (fun e => by have := hrow _ e.symm; omega)).trans hJ.2.1, (hp.block _ (Array.getElem?_eq_some_iff.1 hJ.2.2).1 (fun e => by have := hrow _ e.symm; omega)).trans hJ.2.2⟩) ?_ ⟨hI0, hL, hD⟩).mono ?_
  · rintro pre x W ⟨hi, hl, hk⟩ hlen hsz
    rw [hVs] at hsz
    have hlt : b + 1 < W.heap.size := by omega
    have hy := run_yield (P := P) (args := encs x) hl (by rw [hrc]; exact hps x)
    rw [hrc] at hy
    obtain ⟨W2, hW2⟩ : ∃ W2, W.putObj (b + 1) (.loop { rc .ready with state := .busy }) = W2 := ⟨_, rfl⟩
    have hl2 : W2.heap[b + 1]? = some (.loop { rc .ready with state := .busy }) := by rw [← hW2]; exact World.putObj_heap_same hlt
    have ho2 : ∀ k, k ≠ b + 1 → W2.heap[k]? = W.heap[k]? := fun k hne => by rw [← hW2]; exact World.putObj_heap_other hne
    have hs2 : W2.heap.size = W.heap.size := by rw [← hW2]; simp
    have hkp2 : Kp W W2 := by rw [← hW2]; exact hKb _ _ _ _ (by omega) hl rfl rfl
    have hi2 : I pre W2 := by rw [← hW2]; exact hI.putObj _ hi (by omega) hl rfl
    refine ⟨fn, _, assign, body, hy, roundIn_of_wpIn hfn (hassign _ x W _ ⟨W2, by rw [← hW2]; exact run_beginRound hl (by rw [hrc]), ?_⟩)⟩
    refine wpIn_mono (hbody _ pre x W2 (by omega) hi2 hlen) ?_
    rintro e a3 W3 hp
    cases e with
    | normal =>
      obtain ⟨hk3, hkp3, hi3⟩ := hp
      have hl3 := hk3.same _ _ (by omega) hl2 rfl
      have he := run_endRound (P := P) none hl3
      refine ⟨_, _, he, rfl, ⟨hI.putObj _ hi3 (by omega) hl3 rfl, ?_, ?_⟩, hKt (hKt hkp2 hkp3) (hKb _ _ _ _ (by omega) hl3 rfl rfl), ?_⟩
      · rw [World.putObj_heap_same (Array.getElem?_eq_some_iff.1 hl3).1, hrc]; rfl
      · exact (World.putObj_heap_other (by omega)).trans (hk3.same _ _ (Nat.le_refl _) ((ho2 b (by omega)).trans hk) rfl)
      · have := hk3.size; simp; omega
    | ret => exact hp.elim
    | exit id => exact hp.elim
    | goto t => exact hp.elim
    | panic ch => exact hp.elim
    | outgrown => exact hp.elim
  · rintro e W2 ⟨⟨v, rfl⟩, hi, hl, hk⟩
    have he := run_endLoop (P := P) hl (by rw [hrc]; simp)
    refine ⟨none, _, by rw [hrc] at he; exact he, hdone _ _ (Nat.le_refl _) (hI.putObj _ hi (by omega) hl rfl) ((World.putObj_heap_other (by omega)).trans hk)⟩
theorem wp_range_seqBx {α : Type} {n : Nat} {P : Program} {g : Operand} {ps : Array Tmp} {assign body : Code} {Q : Exit → Act → World → Prop} {a : Act} {w : World}
    (h1 : 1 ≤ n) {gf : Nat} {lb : Array Value} (hg : a.eval g = .func (.func gf) #[] lb) (eg : ∀ args w, (callFunc gf args).run P w = .ok (.enter gf args) w)
    {encs : α → Array Value} {L : List α} {Kp : World → World → Prop} {row : Option Nat} {w0 : World} (hseq : SeqB (n - 1) P gf lb encs L Kp row w0) (hrow : ∀ r, row = some r → r < w.heap.size)
    (hKt : ∀ {A B C : World}, Kp A B → Kp B C → Kp A C) (hKb : ∀ (W : World) (l : Nat) (o o' : Obj), w.heap.size ≤ l → W.heap[l]? = some o → o.isCells = false → o.isWalk = false → Kp W (W.putObj l o')) (hKa : ∀ (W : World) (o : Obj), w.heap.size ≤ W.heap.size → Kp W (W.alloc o)) (hb0 : Below w0.heap.size w0 w) (hps : ∀ x, (encs x).size = ps.size)
    (I : List α → World → Prop) (hI : OwnFrom w.heap.size I) (hIp : ∀ pre W1 W2, I pre W1 → w.heap.size + 2 ≤ W1.heap.size → W1.grownBy W2 row → I pre W2) (h0 : I [] w) (a₁ : α → Nat → Act) (mk : α → Obj)
    (hassign : ∀ (l : Nat) (x : α) (W : World) (K : Act → World → Prop), K (a₁ x W.heap.size) (W.alloc (mk x)) →
      assign.wpIn (Fence.wide.inRound l) (n - 1 - 1) P (Exit.then K (fun _ _ _ => False)) { tmps := (ps.zip (encs x)).foldl (fun t (p, v) => t.setIfInBounds p v) a.tmps, defers := [] } W)
    (hbody : ∀ (l : Nat) (pre : List α) (x : α) (W : World) (k : Nat), w.heap.size + 2 ≤ k → I pre W → W.heap[k]? = some (mk x) → pre ++ [x] <+: L → body.wpIn (Fence.wide.inRound l) (n - 1 - 1) P (seqPost w.heap.size Kp I (pre ++ [x]) W) (a₁ x k) W)
    (hdone : ∀ (D : Nat) (W : World), w.heap.size ≤ D → I L W → W.heap[D]? = some (.deferred (some [])) → Q .normal { a with defers := { target := .collected D, args := #[] } :: a.defers } W) :
    (Code.rangeFunc g ps assign body).wpIn Fence.wide n P Q a w := by
  refine wpIn_rangeFunc fun fn hfn => ?_
  obtain ⟨b, hb⟩ : ∃ b, w.heap.size = b := ⟨_, rfl⟩
  obtain ⟨rc, hrc⟩ : ∃ rc : LoopState → Loop, rc = fun st => { state := st, pending := none, fn, tmps := a.tmps, params := ps, assign, body, defers := b } := ⟨_, rfl⟩
  obtain ⟨V, hV⟩ : ∃ V, (w.alloc (.deferred (some []))).alloc (.loop (rc .ready)) = V := ⟨_, rfl⟩
  have hVs : V.heap.size = b + 2 := by rw [← hV]; simp [hb]
  have hL : V.heap[b + 1]? = some (.loop (rc .ready)) := by
    rw [← hV]; have := World.alloc_heap_new (w.alloc (.deferred (some []))) (.loop (rc .ready)); rwa [World.size_alloc, hb] at this
  have hD : V.heap[b]? = some (.deferred (some [])) := by
    rw [← hV, ← hb]; exact (Below.heap_alloc _ _ _ (by simp)).trans (World.alloc_heap_new w _)
  have hI0 : I [] V := by rw [← hV]; exact hI.alloc _ (hI.alloc _ h0)
  have hbV : Below w0.heap.size w0 V := by
    rw [← hV]; exact hb0.trans ((((Below.refl _ w).alloc (Nat.le_refl _) _).alloc (by simp) _).mono hb0.size)
  rw [hb] at hKb hKa hI hIp hbody hdone hrow
  refine ⟨b + 1, [{ target := .collected b, args := #[] }], V, { target := .fn (.func gf) lb, args := #[.func (.yield (b + 1)) #[] #[]] }, V, gf, #[.func (.yield (b + 1)) #[] #[]] ++ lb, V, ?_, ?_, ?_, ?_, fun _ => h1, ?_⟩
  · rw [← hV, hrc, ← hb]; exact run_enterLoop_outer _ _ _ _ _
  · simp only [resolve, hg]; simp [go_sem]
  · intro f' _; trivial
  · simp [invoke, go_sem, eg]
  refine (hseq (b + 1) (fun pre W => I pre W ∧ W.heap[b + 1]? = some (.loop (rc .ready)) ∧ W.heap[b]? = some (.deferred (some []))) V hbV
    (fun pre A B hJ hs hp => by
      rw [hVs] at hs
      exact ⟨hIp pre A B hJ.1 hs hp, (hp.block _ (Array.getElem?_eq_some_iff.1 hJ.2.1).1 (fun e => by have := hrow _ e.symm; omega)).trans hJ.2.1, (hp.block _ (Array.getElem?_eq_some_iff.1 hJ.2.2).1 (fun e => by have := hrow _ e.symm; omega)).trans hJ.2.2⟩) ?_ ⟨hI0, hL, hD⟩).mono ?_
  · rintro pre x W ⟨hi, hl, hk⟩ hlen hsz
    rw [hVs] at hsz
    have hy := run_yield (P := P) (args := encs x) hl (by rw [hrc]; exact hps x)
    rw [hrc] at hy
    obtain ⟨Wa, hWa⟩ : ∃ Wa, W.alloc (mk x) = Wa := ⟨_, rfl⟩
    have hsa : Wa.heap.size = W.heap.size + 1 := by rw [← hWa]; simp
    have hna : Wa.heap[W.heap.size]? = some (mk x) := by rw [← hWa]; exact World.alloc_heap_new W _
    have hoa : ∀ k, k < W.heap.size → Wa.heap[k]? = W.heap[k]? := fun k hk => by rw [← hWa]; exact Below.heap_alloc _ _ _ hk
    have hla : Wa.heap[b + 1]? = some (.loop (rc .ready)) := (hoa _ (by omega)).trans hl
    have hia : I pre Wa := by rw [← hWa]; exact hI.alloc _ hi
    have hkpa : Kp W Wa := by rw [← hWa]; exact hKa _ _ (by omega)
    have hlt : b + 1 < Wa.heap.size := by omega
    obtain ⟨W2, hW2⟩ : ∃ W2, Wa.putObj (b + 1) (.loop { rc .ready with state := .busy }) = W2 := ⟨_, rfl⟩
    have hl2 : W2.heap[b + 1]? = some (.loop { rc .ready with state := .busy }) := by rw [← hW2]; exact World.putObj_heap_same hlt
    have ho2 : ∀ k, k ≠ b + 1 → W2.heap[k]? = Wa.heap[k]? := fun k hne => by rw [← hW2]; exact World.putObj_heap_other hne
    have hs2 : W2.heap.size = Wa.heap.size := by rw [← hW2]; simp
    have hkp2 : Kp W W2 := hKt hkpa (by rw [← hW2]; exact hKb _ _ _ _ (by omega) hla rfl rfl)
    have hi2 : I pre W2 := by rw [← hW2]; exact hI.putObj _ hia (by omega) hla rfl
    have has := hassign (b + 1) x W
    rw [hWa] at has
    refine ⟨fn, _, assign, body, hy, roundIn_of_wpIn hfn (has _ ⟨W2, by rw [← hW2]; exact run_beginRound hla (by rw [hrc]), ?_⟩)⟩
    refine wpIn_mono (hbody _ pre x W2 W.heap.size (by omega) hi2 ((ho2 _ (by omega)).trans hna) hlen) ?_
    rintro e a3 W3 hp
    cases e with
    | normal =>
      obtain ⟨hk3, hkp3, hi3⟩ := hp
      have hl3 := hk3.same _ _ (by omega) hl2 rfl
      have he := run_endRound (P := P) none hl3
      refine ⟨_, _, he, rfl, ⟨hI.putObj _ hi3 (by omega) hl3 rfl, ?_, ?_⟩, hKt (hKt hkp2 hkp3) (hKb _ _ _ _ (by omega) hl3 rfl rfl), ?_⟩
      · rw [World.putObj_heap_same (Array.getElem?_eq_some_iff.1 hl3).1, hrc]; rfl
      · exact (World.putObj_heap_other (by omega)).trans (hk3.same _ _ (Nat.le_refl _) ((ho2 b (by omega)).trans ((hoa b (by omega)).trans hk)) rfl)
      · have := hk3.size; simp; omega
    | ret => exact hp.elim
    | exit id => exact hp.elim
    | goto t => exact hp.elim
    | panic ch => exact hp.elim
    | outgrown => exact hp.elim
  · rintro e W2 ⟨⟨v, rfl⟩, hi, hl, hk⟩
    have he := run_endLoop (P := P) hl (by rw [hrc]; simp)
    refine ⟨none, _, by rw [hrc] at he; exact he, hdone _ _ (Nat.le_refl _) (hI.putObj _ hi (by omega) hl rfl) ((World.putObj_heap_other (by omega)).trans hk)⟩
end Go.Proofs.YtnjhbblhlgpgdaaDoor

/- The builder as it lies: its box, the way's row, the frozen states' row, the map; what a call of its own keeps. -/
namespace Go.Proofs.YtnjhbblhlgpgdaaDoor
open Go.RowKit Go.Shelf
set_option linter.unusedSimpArgs false
set_option linter.unusedVariables false

theorem z_set_cells {w : World} {B : Nat} {cs : Array Value} {ty : TypeId} (h : w.heap[B]? = some (.cells cs ty)) (j : Nat) (u : Value) : (w.setCell ⟨B, j, none⟩ u).heap[B]? = some (.cells (cs.setIfInBounds j u) ty) :=
  heap_setCell_same w B j cs ty u h
theorem z_grown_set (w : World) (g j : Nat) (u : Value) : w.grownBy (w.setCell ⟨g, j, none⟩ u) (some g) :=
  ⟨rfl, rfl, rfl, by simp [World.setCell], fun k _ hne => Below.heap_setCell w _ u k (fun e => hne (by rw [e]))⟩
theorem z_own_set {w : World} {base : Nat} {e : TypeId} {size g cap n : Nat} {xs : List Value} (h : w.ownsRow base e size (.slice (some ⟨g, 0, none⟩) n cap) n xs) (j : Nat) (hj : j < n * size) (u : Value) :
    (w.setCell ⟨g, j, none⟩ u).ownsRow base e size (.slice (some ⟨g, 0, none⟩) n cap) n (xs.set j u) := own_store h j hj u
/-- A row's front. -/
theorem z_own_front {w : World} {base : Nat} {e : TypeId} {size g cap n : Nat} {xs : List Value} (h : w.ownsRow base e size (.slice (some ⟨g, 0, none⟩) n cap) n xs) (m : Nat) (hm : m ≤ n) : w.ownsRow base e size (.slice (some ⟨g, 0, none⟩) m cap) m (xs.take (m * size)) := by
  obtain ⟨hl, hv⟩ := h
  rcases hv with ⟨h0, _⟩ | ⟨g', cap', cur, e1, hb, hg, h1, h2, h3, h4⟩
  · cases h0
  · simp only [Value.slice.injEq, Option.some.injEq, Addr.mk.injEq] at e1
    obtain ⟨⟨rfl, _⟩, _, rfl⟩ := e1
    have hms : m * size ≤ n * size := Nat.mul_le_mul_right _ hm
    refine ⟨by rw [List.length_take, hl]; omega, .inr ⟨g, cap, cur, rfl, hb, hg, by omega, h2, h3, ?_⟩⟩
    rw [← h4, List.take_take, Nat.min_eq_left hms]
theorem z_gtake {α : Type} {enc : α → List Value} {k : Nat} (hk : ∀ x, (enc x).length = k) (l : List α) (m : Nat) (hm : m ≤ l.length) : (gCells enc l).take (m * k) = gCells enc (l.take m) := by
  conv => lhs; rw [← List.take_append_drop m l]
  rw [gCells_append, List.take_left' (by rw [gCells_len hk, List.length_take, Nat.min_eq_left hm])]
/-- One cell of an element that is turned. -/
theorem z_gset {α : Type} {enc : α → List Value} {k : Nat} (hk : ∀ x, (enc x).length = k) (l : List α) (j i : Nat) (x y : α) (u : Value) (hj : l[j]? = some x) (hi : i < k) (hy : enc y = (enc x).set i u) : (gCells enc l).set (j * k + i) u = gCells enc (l.set j y) := by
  have hjl := (List.getElem?_eq_some_iff.1 hj).1
  have e1 : l = l.take j ++ x :: l.drop (j + 1) := by
    conv => lhs; rw [← List.take_append_drop j l]
    rw [List.drop_eq_getElem_cons hjl, (List.getElem_eq_iff _).2 hj]
  have hlt : (gCells enc (l.take j)).length = j * k := by rw [gCells_len hk, List.length_take, Nat.min_eq_left (by omega)]
  have hs : l.set j y = l.take j ++ y :: l.drop (j + 1) := by
    conv => lhs; rw [e1]
    rw [List.set_append_right _ _ (by rw [List.length_take]; omega), List.length_take, Nat.min_eq_left (by omega), Nat.sub_self]
    rfl
  rw [hs]
  conv => lhs; rw [e1]
  rw [gCells_append, gCells_append]
  show (gCells enc (l.take j) ++ (enc x ++ gCells enc (l.drop (j + 1)))).set (j * k + i) u = gCells enc (l.take j) ++ (enc y ++ gCells enc (l.drop (j + 1)))
  rw [List.set_append_right _ _ (by rw [hlt]; omega), hlt, show j * k + i - j * k = i by omega, List.set_append_left _ _ (by rw [hk]; exact hi), hy]
theorem z_own_below {w w' : World} {base : Nat} {e : TypeId} {size n : Nat} {v : Value} {xs : List Value} (h : w.ownsRow base e size v n xs) (hb : Below w.heap.size w w') : w'.ownsRow base e size v n xs := h.kept (grown_none hb) (by cases v.ownBlock <;> simp)

/-- The builder, as it lies at q: its map at m. -/
structure Bld (w : World) (q m n0 k : Nat) (D : DataW Unit) (W : List (Nat × Int)) (F : List Fz) (vw vf : Value) : Prop where
  q0 : n0 ≤ q
  m0 : n0 ≤ m
  box : w.heap[q]? = some (.cells #[vw, vf, .map (some m)] 118)
  way : OpOwn w n0 vw W
  frz : FzOwn w n0 vf F
  known : TlMap w m k D
theorem Bld.lt {w : World} {q m n0 k : Nat} {D : DataW Unit} {W : List (Nat × Int)} {F : List Fz} {vw vf : Value} (h : Bld w q m n0 k D W F vw vf) : q < w.heap.size ∧ m < w.heap.size ∧ n0 ≤ w.heap.size :=
  ⟨(Array.getElem?_eq_some_iff.1 h.box).1, h.known.lt, by have := (Array.getElem?_eq_some_iff.1 h.box).1; have := h.q0; omega⟩
/-- Rows, box and map are blocks apart. -/
theorem Bld.apart {w : World} {q m n0 k : Nat} {D : DataW Unit} {W : List (Nat × Int)} {F : List Fz} {vw vf : Value} (h : Bld w q m n0 k D W F vw vf) :
    vw.ownBlock ≠ some q ∧ vf.ownBlock ≠ some q ∧ vw.ownBlock ≠ some m ∧ vf.ownBlock ≠ some m ∧ (vw.ownBlock = none ∨ vw.ownBlock ≠ vf.ownBlock) ∧ (vf.ownBlock = none ∨ vf.ownBlock ≠ vw.ownBlock) ∧ q ≠ m := by
  have hb := h.box
  obtain ⟨es, ck, hm, _⟩ := h.known
  refine ⟨fun e => ?_, fun e => ?_, fun e => ?_, fun e => ?_, own_apart h.way h.frz (by decide), own_apart h.frz h.way (by decide), fun e => ?_⟩
  · rcases h.way.2 with ⟨rfl, _⟩ | ⟨g, cap, cur, rfl, _, hg, _⟩
    · cases e
    · have e2 : g = q := by simpa [Value.ownBlock] using e
      rw [e2, hb] at hg
      simp at hg
  · rcases h.frz.2 with ⟨rfl, _⟩ | ⟨g, cap, cur, rfl, _, hg, _⟩
    · cases e
    · have e2 : g = q := by simpa [Value.ownBlock] using e
      rw [e2, hb] at hg
      simp at hg
  · rcases h.way.2 with ⟨rfl, _⟩ | ⟨g, cap, cur, rfl, _, hg, _⟩
    · cases e
    · have e2 : g = m := by simpa [Value.ownBlock] using e
      rw [e2, hm] at hg
      simp at hg
  · rcases h.frz.2 with ⟨rfl, _⟩ | ⟨g, cap, cur, rfl, _, hg, _⟩
    · cases e
    · have e2 : g = m := by simpa [Value.ownBlock] using e
      rw [e2, hm] at hg
      simp at hg
  · rw [e, hm] at hb
    simp at hb
/-- Where no block of the builder's is turned. -/
theorem Bld.kept {w w' : World} {q m n0 k : Nat} {D : DataW Unit} {W : List (Nat × Int)} {F : List Fz} {vw vf : Value} {row : Option Nat} (h : Bld w q m n0 k D W F vw vf) (hg : w.grownBy w' row) (h1 : some q ≠ row) (h2 : some m ≠ row) (h3 : vw.ownBlock = none ∨ vw.ownBlock ≠ row) (h4 : vf.ownBlock = none ∨ vf.ownBlock ≠ row) : Bld w' q m n0 k D W F vw vf :=
  ⟨h.q0, h.m0, (hg.block q h.lt.1 h1).trans h.box, h.way.kept hg h3, h.frz.kept hg h4, h.known.kept hg h2⟩
theorem Bld.below {w w' : World} {q m n0 k : Nat} {D : DataW Unit} {W : List (Nat × Int)} {F : List Fz} {vw vf : Value} (h : Bld w q m n0 k D W F vw vf) (hb : Below w.heap.size w w') : Bld w' q m n0 k D W F vw vf :=
  h.kept (grown_none hb) (by simp) (by simp) (by cases vw.ownBlock <;> simp) (by cases vf.ownBlock <;> simp)
theorem Bld.cells {w : World} {q m n0 k : Nat} {D : DataW Unit} {W : List (Nat × Int)} {F : List Fz} {vw vf : Value} (h : Bld w q m n0 k D W F vw vf) :
    w.cell? ⟨q, 0, none⟩ = some vw ∧ w.cell? ⟨q, 1, none⟩ = some vf ∧ w.cell? ⟨q, 2, none⟩ = some (.map (some m)) ∧ ∀ j, w.frozen? ⟨q, j, none⟩ = false := by
  refine ⟨?_, ?_, ?_, fun j => ?_⟩
  · rw [cell_of_row _ _ _ _ _ (0, 0) h.box]; rfl
  · rw [cell_of_row _ _ _ _ _ (0, 0) h.box]; rfl
  · rw [cell_of_row _ _ _ _ _ (0, 0) h.box]; rfl
  · simp [World.frozen?, h.box]
/-- What a call of the builder's keeps: all below n0; above, all but the builder's own blocks. -/
structure BFr (q m n0 : Nat) (W W' : World) : Prop where
  bel : Below n0 W W'
  keep : ∀ (k : Nat) (o : Obj), n0 ≤ k → W.heap[k]? = some o → k ≠ q → k ≠ m → (∀ cs t fz, o = .cells cs t fz → t ≠ 109 ∧ t ≠ 114) → W'.heap[k]? = some o
theorem BFr.refl (q m n0 : Nat) (W : World) : BFr q m n0 W W := ⟨Below.refl _ _, fun _ _ _ h _ _ _ => h⟩
theorem BFr.trans {q m n0 : Nat} {A B C : World} (h : BFr q m n0 A B) (k : BFr q m n0 B C) : BFr q m n0 A C :=
  ⟨h.bel.trans k.bel, fun i o h1 h2 h3 h4 h5 => k.keep i o h1 (h.keep i o h1 h2 h3 h4 h5) h3 h4 h5⟩
theorem BFr.of_below {q m n0 : Nat} {A B : World} (h : Below A.heap.size A B) (hn : n0 ≤ A.heap.size) : BFr q m n0 A B :=
  ⟨h.mono hn, fun i o _ hi _ _ _ => (h.block i (Array.getElem?_eq_some_iff.1 hi).1).trans hi⟩
theorem BFr.of_grown {q m n0 r : Nat} {A B : World} (h : A.grownBy B (some r)) (hn : n0 ≤ A.heap.size) (hr : n0 ≤ r) (ho : r = q ∨ r = m ∨ A.heap.size ≤ r ∨ ∃ cs t fz, A.heap[r]? = some (.cells cs t fz) ∧ (t = 109 ∨ t = 114)) : BFr q m n0 A B :=
  ⟨(Below.refl n0 A).grown h hn (fun k e => by cases e; exact hr), fun i o h1 hi h3 h4 h5 => (h.block i (Array.getElem?_eq_some_iff.1 hi).1 (fun e => by
    have e := Option.some.inj e
    subst e
    have hil := (Array.getElem?_eq_some_iff.1 hi).1
    rcases ho with e | e | e | ⟨cs, t, fz, e, e2⟩
    · exact h3 e
    · exact h4 e
    · omega
    · rw [hi] at e
      obtain ⟨k1, k2⟩ := h5 cs t fz (Option.some.inj e)
      rcases e2 with e2 | e2
      · exact k1 e2
      · exact k2 e2)).trans hi⟩
theorem z_own_form {w : World} {base : Nat} {e : TypeId} {size n : Nat} {v : Value} {xs : List Value} (h : w.ownsRow base e size v n xs) (hn : 0 < n) : ∃ g cap, v = .slice (some ⟨g, 0, none⟩) n cap ∧ base ≤ g ∧ g < w.heap.size ∧ n ≤ cap ∧ cap ≤ maxLen ∧ ∃ cur, w.heap[g]? = some (.cells cur e (0, 0)) := by
  rcases h.2 with ⟨_, h0⟩ | ⟨g, cap, cur, rfl, hb, hg, h1, h2, h3, h4⟩
  · omega
  · exact ⟨g, cap, rfl, hb, (Array.getElem?_eq_some_iff.1 hg).1, h1, h2, cur, hg⟩
theorem z_own_slice {w : World} {base : Nat} {e : TypeId} {size n : Nat} {v : Value} {xs : List Value} (h : w.ownsRow base e size v n xs) : ∃ A cap, v = .slice A n cap := by
  rcases h.2 with ⟨rfl, rfl⟩ | ⟨g, cap, cur, rfl, _⟩
  · exact ⟨_, _, rfl⟩
  · exact ⟨_, _, rfl⟩
/-- A cell of an element. -/
theorem z_own_at {α : Type} {enc : α → List Value} {k : Nat} (hk : ∀ x, (enc x).length = k) {w : World} {base : Nat} {e : TypeId} {g cap n : Nat} {l : List α} (h : w.ownsRow base e k (.slice (some ⟨g, 0, none⟩) n cap) n (gCells enc l)) {j i : Nat} {x : α} {u : Value} (hj : l[j]? = some x) (hi : (enc x)[i]? = some u) : w.cell? ⟨g, j * k + i, none⟩ = some u := by
  have hik : i < k := by have := (List.getElem?_eq_some_iff.1 hi).1; rwa [hk] at this
  have hjl := (List.getElem?_eq_some_iff.1 hj).1
  have hn : l.length * k = n * k := by have := h.1; rwa [gCells_len hk] at this
  have h3 := gCells_at hk l j i x hj hik
  rw [hi] at h3
  have hlt : j * k + i < n * k := by
    rw [← hn]
    have := Nat.mul_le_mul_right k (show j + 1 ≤ l.length from hjl)
    rw [Nat.succ_mul] at this
    omega
  rcases h.2 with ⟨h0, _⟩ | ⟨g', cap', cur, e1, hb, hg, h1, h2, h4, h5⟩
  · cases h0
  · simp only [Value.slice.injEq, Option.some.injEq, Addr.mk.injEq] at e1
    obtain ⟨⟨rfl, _⟩, _, rfl⟩ := e1
    rw [cell_of_row w g (j * k + i) cur e (0, 0) hg]
    rw [← h5, List.getElem?_take, if_pos hlt] at h3
    simpa using h3
/-- A field of the builder's that is turned. -/
theorem Bld.setWay {w : World} {q m n0 k : Nat} {D : DataW Unit} {W W2 : List (Nat × Int)} {F : List Fz} {vw vf v2 : Value} (h : Bld w q m n0 k D W F vw vf) (hw : OpOwn w n0 v2 W2) : Bld (w.setCell ⟨q, 0, none⟩ v2) q m n0 k D W2 F v2 vf := by
  have h2 : Bld w q m n0 k D W F vw vf := h
  obtain ⟨a1, a2, a3, a4, a5, a6, a7⟩ := h.apart
  have hv2 : v2.ownBlock ≠ some q := fun e => by
    rcases hw.2 with ⟨rfl, _⟩ | ⟨g, cap, cur, rfl, _, hg, _⟩
    · cases e
    · have e2 : g = q := by simpa [Value.ownBlock] using e
      rw [e2, h.box] at hg
      simp at hg
  have hg := z_grown_set w q 0 v2
  exact ⟨h.q0, h.m0, z_set_cells h.box 0 v2, hw.kept hg (.inr hv2), h.frz.kept hg (.inr a2), h.known.kept hg (fun e => a7 (by cases e; rfl))⟩
theorem Bld.setFrz {w : World} {q m n0 k : Nat} {D : DataW Unit} {W : List (Nat × Int)} {F F2 : List Fz} {vw vf v2 : Value} (h : Bld w q m n0 k D W F vw vf) (hw : FzOwn w n0 v2 F2) : Bld (w.setCell ⟨q, 1, none⟩ v2) q m n0 k D W F2 vw v2 := by
  obtain ⟨a1, a2, a3, a4, a5, a6, a7⟩ := h.apart
  have hv2 : v2.ownBlock ≠ some q := fun e => by
    rcases hw.2 with ⟨rfl, _⟩ | ⟨g, cap, cur, rfl, _, hg, _⟩
    · cases e
    · have e2 : g = q := by simpa [Value.ownBlock] using e
      rw [e2, h.box] at hg
      simp at hg
  have hg := z_grown_set w q 1 v2
  exact ⟨h.q0, h.m0, z_set_cells h.box 1 v2, h.way.kept hg (.inr a1), hw.kept hg (.inr hv2), h.known.kept hg (fun e => a7 (by cases e; rfl))⟩
theorem Bld.frSet {w : World} {q m n0 k : Nat} {D : DataW Unit} {W : List (Nat × Int)} {F : List Fz} {vw vf : Value} (h : Bld w q m n0 k D W F vw vf) (j : Nat) (u : Value) : BFr q m n0 w (w.setCell ⟨q, j, none⟩ u) :=
  BFr.of_grown (z_grown_set w q j u) h.lt.2.2 h.q0 (.inl rfl)
/-- An open state whose number is turned, or whose rune is. -/
theorem Bld.setOp {w : World} {q m n0 k : Nat} {D : DataW Unit} {W : List (Nat × Int)} {F : List Fz} {vf : Value} {g n cap : Nat} (h : Bld w q m n0 k D W F (.slice (some ⟨g, 0, none⟩) n cap) vf) {j i : Nat} {x y : Nat × Int} {u : Value} (hj : W[j]? = some x) (hi : i < 2) (hy : opCell y = (opCell x).set i u) :
    Bld (w.setCell ⟨g, j * 2 + i, none⟩ u) q m n0 k D (W.set j y) F (.slice (some ⟨g, 0, none⟩) n cap) vf ∧ BFr q m n0 w (w.setCell ⟨g, j * 2 + i, none⟩ u) := by
  obtain ⟨a1, a2, a3, a4, a5, a6, a7⟩ := h.apart
  have hjl := (List.getElem?_eq_some_iff.1 hj).1
  have hw := h.way
  have hn : n = W.length := by
    rcases hw.2 with ⟨h0, _⟩ | ⟨g', cap', cur, e1, _⟩
    · cases h0
    · simp only [Value.slice.injEq, Option.some.injEq, Addr.mk.injEq] at e1
      exact e1.2.1
  subst hn
  have hg := z_grown_set w g (j * 2 + i) u
  have hw2 := z_own_set hw (j * 2 + i) (by omega) u
  rw [z_gset op_ln W j i x y u hj hi hy] at hw2
  obtain ⟨g1, cap1, e1, hb1, hl1, _, _, cur, hc⟩ := z_own_form hw (by omega)
  simp only [Value.slice.injEq, Option.some.injEq, Addr.mk.injEq] at e1
  obtain ⟨⟨rfl, _⟩, _, _⟩ := e1
  refine ⟨⟨h.q0, h.m0, (hg.block q h.lt.1 (fun e => a1 e.symm)).trans h.box, by unfold OpOwn; rw [List.length_set]; exact hw2, h.frz.kept hg (by rcases a6 with a6 | a6; exact .inl a6; exact .inr a6), h.known.kept hg (fun e => a3 e.symm)⟩, BFr.of_grown hg h.lt.2.2 hb1 (.inr (.inr (.inr ⟨cur, _, _, hc, .inl rfl⟩)))⟩
/-- How one region ends, where it has but one end. -/
def ZOnly (F : Act) (W : World) : Exit → Act → World → Prop
  | .normal, a, w => a = F ∧ w = W
  | _, _, _ => False
theorem z_region_at {P : Program} {id : Nat} {ops : Array Oper} {b : Bool} {Q : Exit → Act → World → Prop} {a : Act} {w : World} (F : Act) (W : World)
    (h1 : (Code.region id ops b).wp P (ZOnly F W) a w) (h2 : Q .normal F W) : (Code.region id ops b).wp P Q a w :=
  Code.wp_mono (fun e a w h => by
    cases e
    case normal => obtain ⟨rfl, rfl⟩ := h; exact h2
    all_goals exact (h : False).elim) h1
theorem BFr.of_row {q m n0 : Nat} {A B : World} {base : Nat} {t : TypeId} {size n : Nat} {v : Value} {xs : List Value} (h : A.grownBy B v.ownBlock) (hn : n0 ≤ A.heap.size) (hv : A.ownsRow n0 t size v n xs) (ht : t = 109 ∨ t = 114) : BFr q m n0 A B := by
  rcases hv.2 with ⟨rfl, _⟩ | ⟨g, cap, cur, rfl, hb, hg, _⟩
  · exact BFr.of_below ⟨h.os, h.tape, h.output, h.size, fun k hk => h.block k hk (by simp [Value.ownBlock])⟩ hn
  · exact BFr.of_grown h hn hb (.inr (.inr (.inr ⟨cur, t, _, hg, ht⟩)))
/-- A state more among the frozen ones: the row has grown, the field is stored. -/
theorem Bld.pushFrz {w w5 : World} {q m n0 k : Nat} {D : DataW Unit} {W : List (Nat × Int)} {F F2 : List Fz} {vw vf v' : Value} (h : Bld w q m n0 k D W F vw vf) (o : Obj) (hg : (w.alloc o).grownBy w5 vf.ownBlock) (hw : FzOwn w5 n0 v' F2) :
    Bld (w5.setCell ⟨q, 1, none⟩ v') q m n0 k D W F2 vw v' ∧ BFr q m n0 w (w5.setCell ⟨q, 1, none⟩ v') := by
  have h1 := h.below (bel_one w o)
  obtain ⟨a1, a2, a3, a4, a5, a6, a7⟩ := h1.apart
  have hbx : w5.heap[q]? = some (.cells #[vw, vf, .map (some m)] 118) := (hg.block q h1.lt.1 (fun e => a2 e.symm)).trans h1.box
  have hkn := h1.known.kept hg (fun e => a4 e.symm)
  have hwy := h1.way.kept hg a5
  have hv2 : v'.ownBlock ≠ some q := fun e => by
    rcases hw.2 with ⟨rfl, _⟩ | ⟨g, cap, cur, rfl, _, hg, _⟩
    · cases e
    · have e2 : g = q := by simpa [Value.ownBlock] using e
      rw [e2, hbx] at hg
      simp at hg
  have hs := z_grown_set w5 q 1 v'
  refine ⟨⟨h.q0, h.m0, z_set_cells hbx 1 v', hwy.kept hs (.inr a1), hw.kept hs (.inr hv2), hkn.kept hs (fun e => a7 (by cases e; rfl))⟩, ?_⟩
  have b1 : BFr q m n0 w (w.alloc o) := BFr.of_below (bel_one w o) h.lt.2.2
  have b2 : BFr q m n0 (w.alloc o) w5 := BFr.of_row (base := n0) hg h1.lt.2.2 h1.frz (.inr rfl)
  exact (b1.trans b2).trans (BFr.of_grown hs (by have := hg.size; have := h1.lt.2.2; omega) h.q0 (.inl rfl))
/-- An open state more. -/
theorem Bld.pushWay {w w5 : World} {q m n0 k : Nat} {D : DataW Unit} {W W2 : List (Nat × Int)} {F : List Fz} {vw vf v' : Value} (h : Bld w q m n0 k D W F vw vf) (o : Obj) (hg : (w.alloc o).grownBy w5 vw.ownBlock) (hw : OpOwn w5 n0 v' W2) :
    Bld (w5.setCell ⟨q, 0, none⟩ v') q m n0 k D W2 F v' vf ∧ BFr q m n0 w (w5.setCell ⟨q, 0, none⟩ v') := by
  have h1 := h.below (bel_one w o)
  obtain ⟨a1, a2, a3, a4, a5, a6, a7⟩ := h1.apart
  have hbx : w5.heap[q]? = some (.cells #[vw, vf, .map (some m)] 118) := (hg.block q h1.lt.1 (fun e => a1 e.symm)).trans h1.box
  have hkn := h1.known.kept hg (fun e => a3 e.symm)
  have hfz := h1.frz.kept hg a6
  have hv2 : v'.ownBlock ≠ some q := fun e => by
    rcases hw.2 with ⟨rfl, _⟩ | ⟨g, cap, cur, rfl, _, hg, _⟩
    · cases e
    · have e2 : g = q := by simpa [Value.ownBlock] using e
      rw [e2, hbx] at hg
      simp at hg
  have hs := z_grown_set w5 q 0 v'
  refine ⟨⟨h.q0, h.m0, z_set_cells hbx 0 v', hw.kept hs (.inr hv2), hfz.kept hs (.inr a2), hkn.kept hs (fun e => a7 (by cases e; rfl))⟩, ?_⟩
  have b1 : BFr q m n0 w (w.alloc o) := BFr.of_below (bel_one w o) h.lt.2.2
  have b2 : BFr q m n0 (w.alloc o) w5 := BFr.of_row (base := n0) hg h1.lt.2.2 h1.way (.inl rfl)
  exact (b1.trans b2).trans (BFr.of_grown hs (by have := hg.size; have := h1.lt.2.2; omega) h.q0 (.inl rfl))
end Go.Proofs.YtnjhbblhlgpgdaaDoor

