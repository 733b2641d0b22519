/- Texts that several proofs of this seat share, one behind the other: HSeq GenRow BLess BOrderP HCheck HOf HLong. -/
import Derived.Test.YtlicchblafodaaaDoorPk8
import Derived.Test.YtlicchblafodaaaDoorPk1
import Derived.OwnWalk
import Derived.Maps.AppendAt
import Derived.Test.YtlicchblafodaaaDoorPk5
import Derived.Sort.Walk0
/- A loop over an iterator that itself loops over another one, where each round boxes its element: the law of the loop. -/
namespace Go.Proofs.YtlicchblafodaaaDoor
open Go.RowKit Go.Shelf

theorem wp_range_box {α : Type} {n : Nat} {P : Program} {g : Operand} {ps : Array Tmp} {assign body : Code} {Q : Exit → Act → World → Prop} {a : Act} {w : World}
    (h1 : 1 ≤ n) {gf : Nat} {lb : Array Value} (hg : a.eval g = .func (.func gf) #[] lb) (eg : ∀ args w, (callFunc gf args).run P w = .ok (.enter gf args) w)
    {encs : α → Array Value} {Kp : World → World → Prop} {S : List α → Prop} {N : Nat} {w0 : World} (hseq : SeqT (n - 1) P gf lb encs Kp S N w0)
    (hKt : ∀ {A B C : World}, Kp A B → Kp B C → Kp A C) (hKb : ∀ (W : World) (l : Nat) (o o' : Obj), w.heap.size ≤ l → W.heap[l]? = some o → o.isCells = false → o.isWalk = false → Kp W (W.putObj l o')) (hKa : ∀ (W : World) (o : Obj), w.heap.size ≤ W.heap.size → Kp W (W.alloc o)) (hb0 : Below w0.heap.size w0 w) (hps : ∀ x, (encs x).size = ps.size)
    (I : List α → World → Prop) (hI : OwnFrom w.heap.size I) (hIp : ∀ pre W1 W2, I pre W1 → w.heap.size + 2 ≤ W1.heap.size → Priv (w.heap.size + 2) W1 W2 → I pre W2) (h0 : I [] w) (a₁ : α → Nat → Act) (mk : α → Obj)
    (hassign : ∀ (l : Nat) (x : α) (W : World) (K : Act → World → Prop), K (a₁ x W.heap.size) (W.alloc (mk x)) →
      assign.wpIn (Fence.wide.inRound l) (n - 1 - 1) P (Exit.then K (fun _ _ _ => False)) { tmps := (ps.zip (encs x)).foldl (fun t (p, v) => t.setIfInBounds p v) a.tmps, defers := [] } W)
    (hbody : ∀ (l : Nat) (pre : List α) (x : α) (W : World) (k : Nat), w.heap.size + 4 ≤ k → I pre W → W.heap[k]? = some (mk x) → pre.length < N → body.wpIn (Fence.wide.inRound l) (n - 1 - 1) P (privPost w.heap.size Kp I (pre ++ [x]) W) (a₁ x k) W)
    (hdone : ∀ (D : Nat) (xs : List α) (W : World), w.heap.size ≤ D → S xs → I xs W → W.heap[D]? = some (.deferred (some [])) → Q .normal { a with defers := { target := .collected D, args := #[] } :: a.defers } W) :
    (Code.rangeFunc g ps assign body).wpIn Fence.wide n P Q a w := by
  refine wpIn_rangeFunc fun fn hfn => ?_
  obtain ⟨b, hb⟩ : ∃ b, w.heap.size = b := ⟨_, rfl⟩
  obtain ⟨rc, hrc⟩ : ∃ rc : LoopState → Loop, rc = fun st => { state := st, pending := none, fn, tmps := a.tmps, params := ps, assign, body, defers := b } := ⟨_, rfl⟩
  obtain ⟨V, hV⟩ : ∃ V, (w.alloc (.deferred (some []))).alloc (.loop (rc .ready)) = V := ⟨_, rfl⟩
  have hVs : V.heap.size = b + 2 := by rw [← hV]; simp [hb]
  have hL : V.heap[b + 1]? = some (.loop (rc .ready)) := by
    rw [← hV]; have := World.alloc_heap_new (w.alloc (.deferred (some []))) (.loop (rc .ready)); rwa [World.size_alloc, hb] at this
  have hD : V.heap[b]? = some (.deferred (some [])) := by
    rw [← hV, ← hb]; exact (Below.heap_alloc _ _ _ (by simp)).trans (World.alloc_heap_new w _)
  have hI0 : I [] V := by rw [← hV]; exact hI.alloc _ (hI.alloc _ h0)
  have hbV : Below w0.heap.size w0 V := by
    rw [← hV]; exact hb0.trans ((((Below.refl _ w).alloc (Nat.le_refl _) _).alloc (by simp) _).mono hb0.size)
  rw [hb] at hKb hKa hI hIp hbody hdone
  refine ⟨b + 1, [{ target := .collected b, args := #[] }], V, { target := .fn (.func gf) lb, args := #[.func (.yield (b + 1)) #[] #[]] }, V, gf, #[.func (.yield (b + 1)) #[] #[]] ++ lb, V, ?_, ?_, ?_, ?_, fun _ => h1, ?_⟩
  · rw [← hV, hrc, ← hb]; exact run_enterLoop_outer _ _ _ _ _
  · simp only [resolve, hg]; simp [go_sem]
  · intro f' _; trivial
  · simp [invoke, go_sem, eg]
  refine (hseq (b + 1) (fun pre W => I pre W ∧ W.heap[b + 1]? = some (.loop (rc .ready)) ∧ W.heap[b]? = some (.deferred (some []))) V hbV
    (fun pre A B hJ hs hp => by
      rw [hVs] at hp hs
      exact ⟨hIp pre A B hJ.1 hs hp, (hp.1.block _ (by omega)).trans hJ.2.1, (hp.1.block _ (by omega)).trans hJ.2.2⟩) ?_ ⟨hI0, hL, hD⟩).mono ?_
  · rintro pre x W ⟨hi, hl, hk⟩ hlen hsz
    rw [hVs] at hsz ⊢
    have hy := run_yield (P := P) (args := encs x) hl (by rw [hrc]; exact hps x)
    rw [hrc] at hy
    obtain ⟨Wa, hWa⟩ : ∃ Wa, W.alloc (mk x) = Wa := ⟨_, rfl⟩
    have hsa : Wa.heap.size = W.heap.size + 1 := by rw [← hWa]; simp
    have hna : Wa.heap[W.heap.size]? = some (mk x) := by rw [← hWa]; exact World.alloc_heap_new W _
    have hoa : ∀ k, k < W.heap.size → Wa.heap[k]? = W.heap[k]? := fun k hk => by rw [← hWa]; exact Below.heap_alloc _ _ _ hk
    have hla : Wa.heap[b + 1]? = some (.loop (rc .ready)) := (hoa _ (by omega)).trans hl
    have hia : I pre Wa := by rw [← hWa]; exact hI.alloc _ hi
    have hkpa : Kp W Wa := by rw [← hWa]; exact hKa _ _ (by omega)
    have hlt : b + 1 < Wa.heap.size := by omega
    obtain ⟨W2, hW2⟩ : ∃ W2, Wa.putObj (b + 1) (.loop { rc .ready with state := .busy }) = W2 := ⟨_, rfl⟩
    have hl2 : W2.heap[b + 1]? = some (.loop { rc .ready with state := .busy }) := by rw [← hW2]; exact World.putObj_heap_same hlt
    have ho2 : ∀ k, k ≠ b + 1 → W2.heap[k]? = Wa.heap[k]? := fun k hne => by rw [← hW2]; exact World.putObj_heap_other hne
    have hs2 : W2.heap.size = Wa.heap.size := by rw [← hW2]; simp
    have hkp2 : Kp W W2 := hKt hkpa (by rw [← hW2]; exact hKb _ _ _ _ (by omega) hla rfl rfl)
    have hi2 : I pre W2 := by rw [← hW2]; exact hI.putObj _ hia (by omega) hla rfl
    have has := hassign (b + 1) x W
    rw [hWa] at has
    refine ⟨fn, _, assign, body, hy, roundIn_of_wpIn hfn (has _ ⟨W2, by rw [← hW2]; exact run_beginRound hla (by rw [hrc]), ?_⟩)⟩
    refine wpIn_mono (hbody _ pre x W2 W.heap.size (by omega) hi2 ((ho2 _ (by omega)).trans hna) hlen) ?_
    rintro e a3 W3 hp
    cases e with
    | normal =>
      obtain ⟨hk3, ht3, hkp3, hi3⟩ := hp
      have hl3 := hk3.same _ _ (by omega) hl2 rfl
      have he := run_endRound (P := P) none hl3
      refine ⟨_, _, he, rfl, ⟨hI.putObj _ hi3 (by omega) hl3 rfl, ?_, ?_⟩, hKt (hKt hkp2 hkp3) (hKb _ _ _ _ (by omega) hl3 rfl rfl), ?_, ?_⟩
      · rw [World.putObj_heap_same (Array.getElem?_eq_some_iff.1 hl3).1, hrc]; rfl
      · exact (World.putObj_heap_other (by omega)).trans (hk3.same _ _ (Nat.le_refl _) ((ho2 b (by omega)).trans ((hoa b (by omega)).trans hk)) rfl)
      · refine ⟨by simp; have := hk3.size; omega, fun k _ hB hk0 ho => ?_⟩
        have hklt := (Array.getElem?_eq_some_iff.1 hk0).1
        exact (World.putObj_heap_other (by omega)).trans (hk3.same _ _ (by omega) ((ho2 k (by omega)).trans ((hoa k hklt).trans hk0)) ho)
      · intro k hB1 hB2
        exact (World.putObj_heap_other (by omega)).trans ((ht3 k hB1 hB2).trans ((ho2 k (by omega)).trans (hoa k (by omega))))
    | ret => exact hp.elim
    | exit id => exact hp.elim
    | goto t => exact hp.elim
    | panic ch => exact hp.elim
    | outgrown => exact hp.elim
  · rintro e W2 ⟨⟨v, rfl⟩, xs, hS, hi, hl, hk⟩
    have he := run_endLoop (P := P) hl (by rw [hrc]; simp)
    refine ⟨none, _, by rw [hrc] at he; exact he, hdone _ xs _ (Nat.le_refl _) hS (hI.putObj _ hi (by omega) hl rfl) ((World.putObj_heap_other (by omega)).trans hk)⟩
end Go.Proofs.YtlicchblafodaaaDoor

/- Slices of structs, for any of them: a value that reads as a list whose elements have so many cells each; append of one. -/
namespace Go.Proofs.YtlicchblafodaaaDoor
open Go.RowKit

/-- All cells of a list, one behind the other. -/
def gCells {α : Type} (enc : α → List Value) (l : List α) : List Value := l.flatMap enc
theorem gCells_len {α : Type} {enc : α → List Value} {k : Nat} (hk : ∀ x, (enc x).length = k) (l : List α) : (gCells enc l).length = l.length * k := by
  induction l with
  | nil => simp [gCells]
  | cons x l ih =>
    show (enc x ++ gCells enc l).length = _
    rw [List.length_append, hk, ih, List.length_cons, Nat.succ_mul]; omega
theorem gCells_snoc {α : Type} (enc : α → List Value) (l : List α) (x : α) : gCells enc (l ++ [x]) = gCells enc l ++ enc x := by simp [gCells]
theorem gCells_append {α : Type} (enc : α → List Value) (l r : List α) : gCells enc (l ++ r) = gCells enc l ++ gCells enc r := by simp [gCells]
theorem gCells_at {α : Type} {enc : α → List Value} {k : Nat} (hk : ∀ x, (enc x).length = k) (l : List α) (j i : Nat) (x : α) (hj : l[j]? = some x) (hi : i < k) : (gCells enc l)[j * k + i]? = (enc x)[i]? := by
  induction l generalizing j with
  | nil => simp at hj
  | cons y l ih =>
    show (enc y ++ gCells enc l)[j * k + i]? = _
    cases j with
    | zero =>
      have e : y = x := by simpa using hj
      subst e
      rw [Nat.zero_mul, Nat.zero_add, List.getElem?_append_left (by rw [hk]; exact hi)]
    | succ j =>
      rw [List.getElem?_append_right (by rw [hk, Nat.succ_mul]; omega), hk, show (j + 1) * k + i - k = j * k + i by rw [Nat.succ_mul]; omega]
      exact ih j (by simpa using hj)

/-- The slice value v reads as the list l. -/
def GRuns {α : Type} (enc : α → List Value) (k : Nat) (w : World) (v : Value) (l : List α) : Prop :=
  ∃ A c, v = .slice A l.length c ∧ l.length ≤ c ∧ (c ≤ maxLen ∧ (A = none → c = 0)) ∧
    (0 < l.length → ∃ b o, A = some ⟨b, o, none⟩ ∧ b < w.heap.size ∧ ∀ j x, l[j]? = some x → ∀ i u, (enc x)[i]? = some u → w.cell? ⟨b, o + j * k + i, none⟩ = some u)
theorem GRuns.below {α : Type} {enc : α → List Value} {k : Nat} {w w' : World} {v : Value} {l : List α} (h : GRuns enc k w v l) (hb : Below w.heap.size w w') : GRuns enc k w' v l := by
  obtain ⟨A, c, e, hc, hm, hx⟩ := h
  refine ⟨A, c, e, hc, hm, fun h0 => ?_⟩
  obtain ⟨b, o, eA, hlt, hcell⟩ := hx h0
  exact ⟨b, o, eA, Nat.lt_of_lt_of_le hlt hb.size, fun j x hj i u hu => (hb.cell (p := ⟨b, _, none⟩) hlt).trans (hcell j x hj i u hu)⟩
theorem GRuns.nil_ {α : Type} (enc : α → List Value) (k : Nat) (w : World) : GRuns enc k w (.slice none 0 0) [] := ⟨none, 0, rfl, by simp, by simp [maxLen], fun h => absurd h (by simp)⟩
theorem GRuns.slice {α : Type} {enc : α → List Value} {k : Nat} {w : World} {v : Value} {l : List α} (h : GRuns enc k w v l) : ∃ A c, v = .slice A l.length c := by
  obtain ⟨A, c, e, _⟩ := h
  exact ⟨A, c, e⟩
/-- Element j's cells, where the length is named. -/
theorem GRuns.cells {α : Type} {enc : α → List Value} {k : Nat} {w : World} {A : Option Addr} {n c : Nat} {l : List α} (h : GRuns enc k w (.slice A n c) l) (hn : l.length = n) (h0 : 0 < n) :
    ∃ b o, A = some ⟨b, o, none⟩ ∧ b < w.heap.size ∧ ∀ j x, l[j]? = some x → ∀ i u, (enc x)[i]? = some u → w.cell? ⟨b, o + j * k + i, none⟩ = some u := by
  obtain ⟨A', c', e, _, _, hx⟩ := h
  rw [hn] at e hx
  obtain ⟨rfl, _, rfl⟩ := Value.slice.inj e
  exact hx h0
theorem GRuns.of_own {α : Type} {enc : α → List Value} {k : Nat} (hk : ∀ x, (enc x).length = k) {w : World} {base : Nat} {v : Value} {n : Nat} {l : List α} {e : TypeId} (hn : l.length = n) (h : w.ownsRow base e k v n (gCells enc l)) : GRuns enc k w v l := by
  obtain ⟨hlen, hv⟩ := h
  subst hn
  rcases hv with ⟨rfl, h0⟩ | ⟨g, cap, cur, rfl, _, hg, hle, hcap, hsz, htk⟩
  · exact ⟨none, 0, by rw [h0], by omega, by simp [maxLen], fun hp => absurd hp (by omega)⟩
  · refine ⟨_, cap, rfl, hle, ⟨hcap, fun h => by cases h⟩, fun _ => ⟨g, 0, rfl, (Array.getElem?_eq_some_iff.1 hg).1, fun j x hj i u hu => ?_⟩⟩
    have hi : i < k := by have := (List.getElem?_eq_some_iff.1 hu).1; rwa [hk] at this
    have hjl : j < l.length := (List.getElem?_eq_some_iff.1 hj).1
    rw [cell_of_row w g (0 + j * k + i) cur e (0, 0) hg]
    have h2 := gCells_at hk l j i x hj hi
    have hlt : j * k + i < l.length * k := by
      have := Nat.mul_le_mul_right k (show j + 1 ≤ l.length from hjl)
      rw [Nat.succ_mul] at this
      omega
    rw [← htk, List.getElem?_take, if_pos hlt, hu] at h2
    simpa using h2
/-- append(v, x) to a row of the call's own: the literal lies in a new block. -/
theorem append_one {P : Program} {α : Type} {enc : α → List Value} {k bytes : Nat} {tS tE : TypeId} {z : Value} (hk : ∀ x, (enc x).length = k) (h1 : ∀ x, ∀ u ∈ enc x, u.oneCell' = true) (hinfo : (P.info? tE).map (fun i => (i.zero, i.size, i.bytes)) = some (some z, k, bytes)) (hzl : z.cells.size = k) (hk0 : 0 < bytes) (hk1 : 0 < k)
    (hU : P.underlying tS = some (.slice tE)) (w : World) (base : Nat) (v : Value) (n : Nat) (xs : List Value) (hown : w.ownsRow base tE k v n xs) (x : α) (hbase : base ≤ w.heap.size) (hlen : (n + 1) * bytes ≤ 140737488355328) :
    ∃ v' w', (Builtin.append_ #[tS, tS] tS #[v, .slice (some ⟨w.heap.size, 0, none⟩) 1 1]).run P (w.alloc (.cells (enc x).toArray tE)) = .ok v' w' ∧ w'.ownsRow base tE k v' (n + 1) (xs ++ enc x) ∧
      (w.alloc (.cells (enc x).toArray tE)).grownBy w' v.ownBlock ∧ (v'.ownBlock = v.ownBlock ∨ v'.ownBlock = some (w.heap.size + 1)) := by
  obtain ⟨i0, hi, hz0, hz1, hz2⟩ := info_parts hinfo
  obtain ⟨v', w', hrun, h2, h3, _, h5⟩ := run_append_own_at (P := P) (w.alloc (.cells (enc x).toArray tE)) base tS tS tE i0 z k bytes hU hi hz0 hz1 hz2 hzl hk1 v n xs (hown.alloc _) ⟨w.heap.size, 0, none⟩ 1 1 (enc x) (by rw [hk]; simp)
    (fun j u hj => by
      have e : (⟨w.heap.size, 0, none⟩ : Addr).add j = ⟨w.heap.size, 0 + j, none⟩ := by unfold Addr.add; simp; omega
      rw [e, cell_of_row _ _ _ _ _ _ (heap_alloc_new w _)]
      simpa using hj) (h1 x) (by have : n + 1 ≤ (n + 1) * bytes := Nat.le_mul_of_pos_right _ hk0; unfold maxLen; omega) hlen (by simp; omega)
  exact ⟨v', w', hrun, h2, h3, by simpa using h5⟩

theorem take_set' {α : Type} (l : List α) (m j : Nat) (u : α) (h : j < m) : (l.set j u).take m = (l.take m).set j u := by
  apply List.ext_getElem?
  intro i
  rw [List.getElem?_take, List.getElem?_set, List.getElem?_set, List.getElem?_take, List.length_take]
  by_cases hi : i < m
  · simp only [hi, if_true]
    by_cases hij : j = i
    · subst hij
      have hm : (j < min m l.length) = (j < l.length) := propext (by omega)
      simp [hm]
    · simp [hij]
  · simp only [hi, if_false]
    rw [if_neg (by omega)]
/-- A store into a row of the call's own. -/
theorem own_store {w : World} {base : Nat} {e : TypeId} {size g cap n : Nat} {xs : List Value} (h : w.ownsRow base e size (.slice (some ⟨g, 0, none⟩) n cap) n xs) (j : Nat) (hj : j < n * size) (u : Value) :
    (w.setCell ⟨g, j, none⟩ u).ownsRow base e size (.slice (some ⟨g, 0, none⟩) n cap) n (xs.set j u) := by
  obtain ⟨hl, hv⟩ := h
  rcases hv with ⟨h0, _⟩ | ⟨g', cap', cur, e1, hb, hg, h1, h2, h3, h4⟩
  · cases h0
  · simp only [Value.slice.injEq, Option.some.injEq, Addr.mk.injEq] at e1
    obtain ⟨⟨rfl, _⟩, _, rfl⟩ := e1
    refine ⟨by simpa using hl, .inr ⟨g, cap, cur.setIfInBounds j u, rfl, hb, ?_, h1, h2, by simpa using h3, ?_⟩⟩
    · obtain ⟨hlt, hk⟩ := Array.getElem?_eq_some_iff.1 hg
      show (w.heap.modify g _)[g]? = _
      rw [Array.getElem?_eq_getElem (by rw [Array.size_modify]; exact hlt), Array.getElem_modify_self, hk]
      rfl
    · rw [Array.toList_setIfInBounds, take_set' _ _ _ _ hj, h4]
theorem own_thaw {w : World} {base : Nat} {e : TypeId} {size g cap n : Nat} {xs : List Value} (h : w.ownsRow base e size (.slice (some ⟨g, 0, none⟩) n cap) n xs) (j : Nat) : w.frozen? ⟨g, j, none⟩ = false := by
  rcases h.2 with ⟨h0, _⟩ | ⟨g', cap', cur, e1, hb, hg, h1, h2, h3, h4⟩
  · cases h0
  · simp only [Value.slice.injEq, Option.some.injEq, Addr.mk.injEq] at e1
    obtain ⟨⟨rfl, _⟩, _, rfl⟩ := e1
    simp [World.frozen?, hg]
/-- Rows of two kinds are two blocks. -/
theorem own_apart {w : World} {base base' : Nat} {e e' : TypeId} {size size' n n' : Nat} {v v' : Value} {xs xs' : List Value} (h : w.ownsRow base e size v n xs) (h' : w.ownsRow base' e' size' v' n' xs') (hne : e ≠ e') : v.ownBlock = none ∨ v.ownBlock ≠ v'.ownBlock := by
  rcases h.2 with ⟨rfl, _⟩ | ⟨g, cap, cur, rfl, hb, hg, h1, h2, h3, h4⟩
  · exact .inl rfl
  · rcases h'.2 with ⟨rfl, _⟩ | ⟨g', cap', cur', rfl, hb', hg', h1', h2', h3', h4'⟩
    · exact .inr (by simp [Value.ownBlock])
    · refine .inr fun e1 => ?_
      obtain rfl : g = g' := by simpa [Value.ownBlock] using e1
      rw [hg] at hg'
      simp only [Option.some.injEq, Obj.cells.injEq] at hg'
      exact hne hg'.2.1
theorem own_lt' {w : World} {base : Nat} {e : TypeId} {size n : Nat} {v : Value} {xs : List Value} (h : w.ownsRow base e size v n xs) : ∀ g, v.ownBlock = some g → g < w.heap.size := by
  intro g hg
  rcases h.2 with ⟨rfl, _⟩ | ⟨g', cap, cur, rfl, _, hh, _⟩
  · simp [Value.ownBlock] at hg
  · obtain rfl : g' = g := by simpa [Value.ownBlock] using hg
    exact (Array.getElem?_eq_some_iff.1 hh).1
end Go.Proofs.YtlicchblafodaaaDoor

/- errataref05.Less, Same: which of two blocks stands ahead; whether two rows of blocks are the same. -/
namespace Go.Proofs.YtlicchblafodaaaDoor
open Go.RowKit Go.Shelf

theorem toList_ext {a b : ByteArray} (h : a.toList = b.toList) : a = b := by
  have : a.data.toList = b.data.toList := by rw [Lib.toList_data, Lib.toList_data] at *; simpa using h
  cases a; cases b; congr 1; exact Array.toList_inj.1 this
/-- Does a block stand ahead of another one? -/
def lessB (a b : Blk) : Bool := if Op.bytesLess a.1.toList b.1.toList = true then true else if a.1.toList = b.1.toList then Op.bytesLess a.2.1.toList b.2.1.toList else false

set_option maxRecDepth 100000 in
set_option maxHeartbeats 4000000 in
theorem refLess_any (a b c d : ByteArray) (N M : Int) (w : World) :
    Calls Tryd.prog 21 #[.agg #[.string a, .string b, .int .i64 N], .agg #[.string c, .string d, .int .i64 M]] w fun e w' => e = .returned (.bool (lessB (a, b, N) (c, d, M))) ∧ Below w.heap.size w w' := by
  obtain ⟨res, hres⟩ : ∃ r, lessB (a, b, N) (c, d, M) = r := ⟨_, rfl⟩
  rw [hres]
  unfold lessB at hres
  simp only at hres
  have HR := Lib.hid hres; clear hres
  have hal : Hid (Below w.heap.size w ((w.alloc (.cells #[.string a, .string b, .int .i64 N] 35)).alloc (.cells #[.string c, .string d, .int .i64 M] 35))) := Lib.hid (((Below.refl _ _).alloc (Nat.le_refl _) _).alloc (by simp) _)
  by_cases h1 : Op.bytesLess a.toList c.toList = true
  · have hr : res = true := by rw [← HR.out, if_pos h1]
    subst hr
    go_enter Tryd.func21, Tryd.ntmps21
    go_wp2
    go_ret
    exact ⟨rfl, hal.out⟩
  · by_cases h2 : a.toList = c.toList
    · have hr : Hid (res = Op.bytesLess b.toList d.toList) := Lib.hid (by rw [← HR.out, if_neg h1, if_pos h2])
      obtain rfl := toList_ext h2
      have h1' : Op.bytesLess a.toList a.toList = false := by simpa using h1
      clear h1 h2
      go_enter Tryd.func21, Tryd.ntmps21
      go_wp2
      go_ret
      exact ⟨ret_bool (by rw [hr.out]), hal.out⟩
    · have hr : res = false := by rw [← HR.out, if_neg h1, if_neg h2]
      subst hr
      have h1' : Op.bytesLess a.toList c.toList = false := by simpa using h1
      have h2' : (a.toList == c.toList) = false := beq_eq_false_iff_ne.2 h2
      go_enter Tryd.func21, Tryd.ntmps21
      go_wp2
      go_ret
      exact ⟨rfl, hal.out⟩

/-- A row of blocks. -/
abbrev BRuns (w : World) (v : Value) (l : List Blk) : Prop := GRuns blkCell 3 w v l
def blk0 : Blk := (⟨#[]⟩, ⟨#[]⟩, 0)
theorem blk_cells {w : World} {b o j : Nat} {x : Blk} {l : List Blk} (h : ∀ j x, l[j]? = some x → ∀ i u, (blkCell x)[i]? = some u → w.cell? ⟨b, o + j * 3 + i, none⟩ = some u) (hj : l[j]? = some x) :
    w.cell? ⟨b, o + j * 3, none⟩ = some (.string x.1) ∧ w.cell? ⟨b, o + j * 3 + 1, none⟩ = some (.string x.2.1) ∧ w.cell? ⟨b, o + j * 3 + 2, none⟩ = some (.int .i64 x.2.2) :=
  ⟨h j x hj 0 _ rfl, h j x hj 1 _ rfl, h j x hj 2 _ rfl⟩
set_option maxRecDepth 100000 in
set_option maxHeartbeats 4000000 in
theorem refSame5_any (u v : Value) (x y : List Blk) (w : World) (hx : BRuns w u x) (hy : BRuns w v y) :
    Calls Tryd.prog 15 #[u, v] w fun e w' => e = .returned (.bool (decide (x = y))) ∧ Drawn w w' := by
  obtain ⟨A, c, rfl, hxc, ⟨hxm, _⟩, hxx⟩ := hx
  obtain ⟨B, d, rfl, hyc, ⟨hym, _⟩, hyy⟩ := hy
  unfold maxLen at hxm hym
  obtain ⟨n, hn⟩ : ∃ n, x.length = n := ⟨_, rfl⟩
  obtain ⟨m, hm⟩ : ∃ m, y.length = m := ⟨_, rfl⟩
  obtain ⟨res, hr⟩ : ∃ r, decide (x = y) = r := ⟨_, rfl⟩
  rw [hr]
  rw [hn] at hxc hxx ⊢
  rw [hm] at hyc hyy ⊢
  have Hn := Lib.hid hn; have Hm := Lib.hid hm; have HR := Lib.hid hr
  have HX := Lib.hid hxx; have HY := Lib.hid hyy
  clear hn hm hr hxx hyy
  by_cases hnm : n = m
  · subst hnm
    go_enter Tryd.func15, Tryd.ntmps15
    go_wp2
    go_loopg [13] n (fun g s13 wr => ∃ k q : Nat, k ≤ n ∧ n - k ≤ g ∧ s13 = .int .i64 k ∧ wr = w.drewN q ∧ Hid (x.take k = y.take k))
    case atStart => exact ⟨0, 0, Nat.zero_le _, by omega, rfl, rfl, Lib.hid (by simp)⟩
    case round =>
      obtain ⟨k, q, hkn, hg, rfl, rfl, HC⟩ := hrel
      by_cases h1 : k < n
      · obtain ⟨b, o, rfl, hb, hc1⟩ := HX.out (by omega)
        obtain ⟨b', o', rfl, hb', hc2⟩ := HY.out (by omega)
        obtain ⟨⟨p1, p2, p3⟩, hp⟩ : ∃ p, x[k]? = some p := ⟨_, List.getElem?_eq_getElem (by rw [Hn.out]; exact h1)⟩
        obtain ⟨⟨q1, q2, q3⟩, hq⟩ : ∃ p, y[k]? = some p := ⟨_, List.getElem?_eq_getElem (by rw [Hm.out]; exact h1)⟩
        obtain ⟨e1, e2, e3⟩ := blk_cells hc1 hp
        obtain ⟨f1, f2, f3⟩ := blk_cells hc2 hq
        simp only at e1 e2 e3 f1 f2 f3
        clear hc1 hc2
        have NE : Hid ((p1, p2, p3) ≠ (q1, q2, q3) → x ≠ y) := Lib.hid (fun hne e => hne (by rw [e, hq] at hp; exact (Option.some.inj hp).symm))
        have ST : Hid ((p1, p2, p3) = (q1, q2, q3) → x.take (k + 1) = y.take (k + 1)) := Lib.hid (fun he => by rw [List.take_add_one, List.take_add_one, HC.out, hp, hq, he])
        clear hp hq
        have i1 : (k : Int) < (n : Int) := by omega
        have hcs : (p1 = q1 ∧ p2 = q2 ∧ p3 = q3) ∨ (p1.toList == q1.toList) = false ∨ ((p1.toList == q1.toList) = true ∧ (p2.toList == q2.toList) = false) ∨ ((p1.toList == q1.toList) = true ∧ (p2.toList == q2.toList) = true ∧ (p3 == q3) = false) := by
          by_cases h1 : p1.toList = q1.toList
          · by_cases h2 : p2.toList = q2.toList
            · by_cases h3 : p3 = q3
              · exact .inl ⟨toList_ext h1, toList_ext h2, h3⟩
              · exact .inr (.inr (.inr ⟨by simpa using h1, by simpa using h2, by simpa using h3⟩))
            · exact .inr (.inr (.inl ⟨by simpa using h1, by simpa using h2⟩))
          · exact .inr (.inl (by simpa using h1))
        rcases hcs with ⟨rfl, rfl, rfl⟩ | h1 | ⟨h1, h2⟩ | ⟨h1, h2, h3⟩
        · go_wp2
          go_quiet (fail)
          go_wp2
          go_roundg (n - (k + 1))
          case measure => omega
          case rel => exact ⟨k + 1, _, by omega, by omega, by go_num, by first | rfl | rw [World.drewN_drewN], Lib.hid (ST.out (by first | rfl | trivial))⟩
        all_goals
          have hno : x ≠ y := NE.out (by
            intro e
            simp only [Prod.mk.injEq] at e
            obtain ⟨rfl, rfl, rfl⟩ := e
            simp at *)
          have HNO := Lib.hid hno
          clear hno
          go_wp2
          go_quiet (fail)
          go_wp2
          go_ret
          exact ⟨ret_bool (by rw [← HR.out]; symm; simpa using HNO.out), by first | exact Drawn.of2 _ _ _ | exact Drawn.of3 _ _ _ _⟩
      · obtain rfl : n = k := by omega
        go_wp2
        go_ret
        exact ⟨ret_bool (by rw [← HR.out, decide_eq_true (take_eq_all x y (by rw [Hn.out, Hm.out]) (by rw [Hn.out]; exact HC.out))]), Drawn.of _ _⟩
  · have h1 : ((n : Int) == (m : Int)) = false := by simp; omega
    go_enter Tryd.func15, Tryd.ntmps15
    go_wp2
    go_ret
    exact ⟨ret_bool (by rw [← HR.out]; symm; rw [decide_eq_false_iff_not]; rintro rfl; exact hnm (Hn.out.symm.trans Hm.out)), Drawn.refl _⟩
end Go.Proofs.YtlicchblafodaaaDoor

/- Blocks stand in order: of two just one stands ahead, or both sides are the same; of three it goes on. -/
namespace Go.Proofs.YtlicchblafodaaaDoor
open Go.RowKit Go.Shelf

theorem u8_tri (x y : List UInt8) (h1 : ¬ x < y) (h2 : ¬ y < x) : x = y := List.le_antisymm (List.not_lt.1 h2) (List.not_lt.1 h1)
theorem lessB_iff (a b : Blk) : lessB a b = true ↔ a.1.toList < b.1.toList ∨ (a.1.toList = b.1.toList ∧ a.2.1.toList < b.2.1.toList) := by
  unfold lessB
  simp only [Go.Proofs.bytesLess_eq, decide_eq_true_eq]
  by_cases h1 : a.1.toList < b.1.toList
  · simp [h1]
  · by_cases h2 : a.1.toList = b.1.toList
    · simp [h2, List.lt_irrefl]
    · simp [h1, h2]
/-- The same sides. -/
def sameS (a b : Blk) : Prop := a.1 = b.1 ∧ a.2.1 = b.2.1
theorem less_one (a b : Blk) : (lessB a b = true ∧ lessB b a = false ∧ ¬ sameS a b) ∨ (lessB a b = false ∧ lessB b a = true ∧ ¬ sameS a b) ∨ (lessB a b = false ∧ lessB b a = false ∧ sameS a b) := by
  have i1 := lessB_iff a b
  have i2 := lessB_iff b a
  have ir : ∀ x : List UInt8, ¬ x < x := List.lt_irrefl
  have asy : ∀ x y : List UInt8, x < y → ¬ y < x := fun x y h k => ir x (List.lt_trans h k)
  cases h1 : lessB a b with
  | true =>
    left
    refine ⟨rfl, ?_, ?_⟩
    · cases h2 : lessB b a with
      | false => rfl
      | true =>
        exfalso
        rcases i1.1 h1 with k1 | ⟨e1, k1⟩
        · rcases i2.1 h2 with k2 | ⟨e2, k2⟩
          · exact asy _ _ k1 k2
          · rw [e2] at k1; exact ir _ k1
        · rcases i2.1 h2 with k2 | ⟨e2, k2⟩
          · rw [e1] at k2; exact ir _ k2
          · exact asy _ _ k1 k2
    · rintro ⟨e1, e2⟩
      rcases i1.1 h1 with k1 | ⟨_, k1⟩
      · rw [e1] at k1; exact ir _ k1
      · rw [e2] at k1; exact ir _ k1
  | false =>
    right
    have n1 : ¬ (a.1.toList < b.1.toList ∨ (a.1.toList = b.1.toList ∧ a.2.1.toList < b.2.1.toList)) := fun h => by rw [i1.2 h] at h1; cases h1
    cases h2 : lessB b a with
    | true =>
      left
      refine ⟨rfl, rfl, ?_⟩
      rintro ⟨e1, e2⟩
      rcases i2.1 h2 with k2 | ⟨_, k2⟩
      · rw [e1] at k2; exact ir _ k2
      · rw [e2] at k2; exact ir _ k2
    | false =>
      right
      have n2 : ¬ (b.1.toList < a.1.toList ∨ (b.1.toList = a.1.toList ∧ b.2.1.toList < a.2.1.toList)) := fun h => by rw [i2.2 h] at h2; cases h2
      have e1 : a.1.toList = b.1.toList := u8_tri _ _ (fun h => n1 (.inl h)) (fun h => n2 (.inl h))
      have e2 : a.2.1.toList = b.2.1.toList := u8_tri _ _ (fun h => n1 (.inr ⟨e1, h⟩)) (fun h => n2 (.inr ⟨e1.symm, h⟩))
      exact ⟨rfl, rfl, toList_ext e1, toList_ext e2⟩
theorem less_on (a b c : Blk) (h1 : lessB a b = true) (h2 : lessB b c = true) : lessB a c = true := by
  rw [lessB_iff] at h1 h2 ⊢
  rcases h1 with k1 | ⟨e1, k1⟩
  · rcases h2 with k2 | ⟨e2, k2⟩
    · exact .inl (List.lt_trans k1 k2)
    · exact .inl (e2 ▸ k1)
  · rcases h2 with k2 | ⟨e2, k2⟩
    · exact .inl (e1 ▸ k2)
    · exact .inr ⟨e1.trans e2, List.lt_trans k1 k2⟩
end Go.Proofs.YtlicchblafodaaaDoor

/- block.Check, Less: whether a block may be; which of two stands ahead. -/
namespace Go.Proofs.YtlicchblafodaaaDoor
open Go.RowKit Go.Shelf

set_option maxRecDepth 100000 in
set_option maxHeartbeats 4000000 in
theorem chk_any (a b : ByteArray) (N : Int) (w : World) (hO : Okw w) (ha : a.size * 4 ≤ 140737488355328) (hb : b.size * 4 ≤ 140737488355328) :
    Calls Tryd.prog 18 #[.agg #[.string a, .string b, .int .i64 N]] w fun e w' => e = .returned (.int .i64 (chkS (a, b, N))) ∧ Below w.heap.size w w' := by
  obtain ⟨res, hres⟩ : ∃ r, chkS (a, b, N) = r := ⟨_, rfl⟩
  rw [hres]
  have hO1 : Okw (w.alloc (.cells #[.string a, .string b, .int .i64 N] 35)) := hO.below ((Below.refl _ _).alloc (Nat.le_refl _) _)
  have c1 := decode_runs a (w.alloc (.cells #[.string a, .string b, .int .i64 N] 35)) ha hO1.1 hO1.2
  have c2 := fun (w : World) (h : Okw w) => decode_runs b w hb h.1 h.2
  have HO1 := Lib.hid hO1; clear hO1 hO
  unfold chkS at hres
  simp only at hres
  have hal : Below w.heap.size w (w.alloc (.cells #[.string a, .string b, .int .i64 N] 35)) := (Below.refl _ _).alloc (Nat.le_refl _) _
  have HAL := Lib.hid hal; clear hal
  have key : ∀ (n m : Nat) (ea eb : Int), (decRunes a.data.toList).length = n → (decRunes b.data.toList).length = m → decErr a.data.toList = ea → decErr b.data.toList = eb →
      ((ea != 0) = true ∧ res = 3) ∨ ((ea != 0) = false ∧ (eb != 0) = true ∧ res = 3) ∨ ((ea != 0) = false ∧ (eb != 0) = false ∧ ((3 < n ∧ res = 5) ∨ (¬ 3 < n ∧ 3 < m ∧ res = 5) ∨ (¬ 3 < n ∧ ¬ 3 < m ∧ ((a = b ∧ res = 7) ∨ (a ≠ b ∧ ((N < 1 ∧ res = 2) ∨ (¬ N < 1 ∧ 1073741824 < N ∧ res = 2) ∨ (¬ N < 1 ∧ ¬ 1073741824 < N ∧ res = 0))))))) := by
    intro n m ea eb hn hm hea heb
    unfold decErr at hea heb
    unfold decRunes at hn hm
    cases va : Lib.validD a.data.toList with
    | false =>
      rw [va] at hea hres
      left
      exact ⟨by rw [← hea]; rfl, by rw [← hres]; rfl⟩
    | true =>
      rw [va] at hea hn hres
      have hea0 : ea = 0 := hea.symm
      cases vb : Lib.validD b.data.toList with
      | false =>
        rw [vb] at heb hres
        right; left
        exact ⟨by rw [hea0]; rfl, by rw [← heb]; rfl, by rw [← hres]; rfl⟩
      | true =>
        rw [vb] at heb hm hres
        have heb0 : eb = 0 := heb.symm
        right; right
        refine ⟨by rw [hea0]; rfl, by rw [heb0]; rfl, ?_⟩
        simp only [Bool.and_self, if_true] at hres hn hm
        rw [hn, hm] at hres
        by_cases h1 : 3 < n
        · left; exact ⟨h1, by rw [← hres, if_pos (.inl h1)]⟩
        · right
          by_cases h2 : 3 < m
          · left; exact ⟨h1, h2, by rw [← hres, if_pos (.inr h2)]⟩
          · right
            rw [if_neg (by omega)] at hres
            refine ⟨h1, h2, ?_⟩
            by_cases h3 : a = b
            · left; exact ⟨h3, by rw [← hres, if_pos h3]⟩
            · right
              rw [if_neg h3] at hres
              refine ⟨h3, ?_⟩
              by_cases h4 : N < 1
              · left; exact ⟨h4, by rw [← hres, if_pos (.inl h4)]⟩
              · right
                by_cases h5 : 1073741824 < N
                · left; exact ⟨h4, h5, by rw [← hres, if_pos (.inr h5)]⟩
                · right; exact ⟨h4, h5, by rw [← hres, if_neg (by omega)]⟩
  obtain ⟨n, hn⟩ : ∃ n, (decRunes a.data.toList).length = n := ⟨_, rfl⟩
  obtain ⟨m, hm⟩ : ∃ n, (decRunes b.data.toList).length = n := ⟨_, rfl⟩
  obtain ⟨ea, hea⟩ : ∃ n, decErr a.data.toList = n := ⟨_, rfl⟩
  obtain ⟨eb, heb⟩ : ∃ n, decErr b.data.toList = n := ⟨_, rfl⟩
  have hcs := key n m ea eb hn hm hea heb
  simp only [hn, hea] at c1
  simp only [hm, heb] at c2
  clear key hres hn hm hea heb
  have C1 := Lib.hid c1; have C2 := Lib.hid c2
  clear c1 c2
  have fin : ∀ w1 w2 : World, Below (w.alloc (.cells #[.string a, .string b, .int .i64 N] 35)).heap.size (w.alloc (.cells #[.string a, .string b, .int .i64 N] 35)) w1 → Below w1.heap.size w1 w2 →
      w1.cell? ⟨w.heap.size, 1, none⟩ = some (.string b) ∧ w2.cell? ⟨w.heap.size, 0, none⟩ = some (.string a) ∧ w2.cell? ⟨w.heap.size, 1, none⟩ = some (.string b) ∧ w2.cell? ⟨w.heap.size, 2, none⟩ = some (.int .i64 N) ∧ Below w.heap.size w w2 := fun w1 w2 h1 h2 => by
    have h12 := h1.trans (h2.mono h1.size)
    exact ⟨(h1.cell (p := ⟨w.heap.size, 1, none⟩) (by simp)).trans (by simp), (h12.cell (p := ⟨w.heap.size, 0, none⟩) (by simp)).trans (by simp), (h12.cell (p := ⟨w.heap.size, 1, none⟩) (by simp)).trans (by simp), (h12.cell (p := ⟨w.heap.size, 2, none⟩) (by simp)).trans (by simp), HAL.out.trans (h12.mono HAL.out.size)⟩
  have FIN := Lib.hid fin; clear fin
  rcases hcs with ⟨z1, rfl⟩ | ⟨z1, z2, rfl⟩ | ⟨z1, z2, ⟨h1, rfl⟩ | ⟨h1, h2, rfl⟩ | ⟨h1, h2, ⟨rfl, rfl⟩ | ⟨h3, ⟨h4, rfl⟩ | ⟨h4, h5, rfl⟩ | ⟨h4, h5, rfl⟩⟩⟩⟩
  all_goals
    try have i1 : (3 : Int) < (n : Int) := by omega
    try have i1 : ¬ (3 : Int) < (n : Int) := by omega
    try have i2 : (3 : Int) < (m : Int) := by omega
    try have i2 : ¬ (3 : Int) < (m : Int) := by omega
    try have s1 : (a.toList == b.toList) = false := beq_eq_false_iff_ne.2 (fun e => h3 (by cases a; cases b; congr 1; exact Array.toList_inj.1 (by simpa [Lib.toList_data] using e)))
    go_enter Tryd.func18, Tryd.ntmps18
    go_wp2_with fail
    refine C1.out.mono ?_
    rintro e w1 ⟨A1, c1, rfl, r1, b1⟩
    obtain ⟨p1, _, _, _, _⟩ := FIN.out w1 w1 b1 (Below.refl _ _)
    have B1 := Lib.hid b1; clear b1 r1
    go_wp2_with fail
    refine (C2.out _ (HO1.out.below B1.out)).mono ?_
    rintro e w2 ⟨A2, c2, rfl, r2, b2⟩
    obtain ⟨_, q0, q1, q2, bb⟩ := FIN.out w1 w2 B1.out b2
    have BB := Lib.hid bb
    clear b2 r2 bb p1
    go_wp2
    go_ret
    exact ⟨rfl, BB.out⟩

set_option maxRecDepth 100000 in
set_option maxHeartbeats 4000000 in
theorem less_any (a b c d : ByteArray) (N M : Int) (w : World) :
    Calls Tryd.prog 20 #[.agg #[.string a, .string b, .int .i64 N], .agg #[.string c, .string d, .int .i64 M]] w fun e w' => e = .returned (.bool (lessB (a, b, N) (c, d, M))) ∧ Below w.heap.size w w' := by
  obtain ⟨res, hres⟩ : ∃ r, lessB (a, b, N) (c, d, M) = r := ⟨_, rfl⟩
  rw [hres]
  unfold lessB at hres
  simp only at hres
  have HR := Lib.hid hres; clear hres
  have hal : Hid (Below w.heap.size w ((w.alloc (.cells #[.string a, .string b, .int .i64 N] 35)).alloc (.cells #[.string c, .string d, .int .i64 M] 35))) := Lib.hid (((Below.refl _ _).alloc (Nat.le_refl _) _).alloc (by simp) _)
  by_cases h2 : a.toList = c.toList
  · have h1 : ¬ Op.bytesLess a.toList c.toList = true := by
      rw [h2, Go.Proofs.bytesLess_eq]
      simp [List.lt_irrefl]
    have hr : Hid (res = Op.bytesLess b.toList d.toList) := Lib.hid (by rw [← HR.out, if_neg h1, if_pos h2])
    obtain rfl := toList_ext h2
    clear h1 h2
    go_enter Tryd.func20, Tryd.ntmps20
    go_wp2
    go_ret
    exact ⟨ret_bool (by rw [hr.out]), hal.out⟩
  · have hr : Hid (res = Op.bytesLess a.toList c.toList) := Lib.hid (by
      rw [← HR.out, if_neg h2]
      cases Op.bytesLess a.toList c.toList <;> rfl)
    have h2' : (a.toList == c.toList) = false := beq_eq_false_iff_ne.2 h2
    go_enter Tryd.func20, Tryd.ntmps20
    go_wp2
    go_ret
    exact ⟨ret_bool (by rw [hr.out]), hal.out⟩
end Go.Proofs.YtlicchblafodaaaDoor

/- block.Of: the blocks of steps that aren't too long and differ, or why a step may not be. -/
namespace Go.Proofs.YtlicchblafodaaaDoor
open Go.RowKit Go.Shelf
attribute [local go_sem] Oper.semAt_some blkV

theorem info_bk : (Tryd.prog.info? 35).map (fun i => (i.zero, i.size, i.bytes)) = some (some (.agg #[.string ⟨#[]⟩, .string ⟨#[]⟩, .int .i64 0]), 3, 40) := by kernel_rfl
theorem blk_len (x : Blk) : (blkCell x).length = 3 := rfl
theorem bk_one (x : Blk) : ∀ u ∈ blkCell x, u.oneCell' = true := by
  intro u hu
  simp only [blkCell, List.mem_cons, List.not_mem_nil, or_false] at hu
  rcases hu with rfl | rfl | rfl <;> rfl
/-- An append whose run is known, within a fence. -/
theorem wpListIn_append_runH {F : Fence} {n : Nat} {P : Program} {w : World} {ops : Array Oper} {rest : List Oper} {o : Oper} {a : Act} {Q : Exit → Act → World → Prop} (s x : Operand) (t : TypeId) (v u v' : Value) (w' : World)
    (hg : o.guard = none) (hop : o.op = Op.call { callee := Callee.builtin Builtin.append, args := #[s, x], argTypes := #[t, t] })
    (hrun : (Builtin.append_ #[t, t] o.type #[v, u]).run P w = .ok v' w') (hs : a.eval s = v) (hx : a.eval x = u)
    (h : wpListIn F n P ops Q rest (a.put o.dst v') w') : wpListIn F n P ops Q (o :: rest) a w := by
  refine wpListIn_plain hg fun K hK => ?_
  unfold Oper.wpIn
  refine ⟨?_, ?_⟩
  · simp [Oper.about, hop, resolve, Target.leads, Sem.run_pure]
  · rw [Oper.semAt_plain F _ _ (by rw [hop]; intro c hc'; cases hc')]
    simp [execOp, hop, resolve, invoke, builtin, hs, hx, hrun, Result.andThen]
    exact hK _ _ h
/-- The blocks that may be among all. -/
def okB (l : List Blk) : List Blk := l.filter (fun b => decide (chkS b = 0))
theorem okB_yes (l : List Blk) (x : Blk) (h : chkS x = 0) : okB (l ++ [x]) = okB l ++ [x] := by simp [okB, h]
theorem okB_no (l : List Blk) (x : Blk) (h : chkS x ≠ 0) : okB (l ++ [x]) = okB l := by simp [okB, h]
theorem okB_len (l : List Blk) : (okB l).length ≤ l.length := List.length_filter_le _ _

def OfPost (l : List St) (w : World) (e : Ending) (w' : World) : Prop :=
  ∃ v, e = .returned (.tuple #[v, .int .i64 (stErr l)]) ∧ w'.ownsRow w.heap.size 35 3 v (ofS l).length (gCells blkCell (ofS l)) ∧ Below w.heap.size w w'

set_option maxRecDepth 100000 in
set_option maxHeartbeats 2000000 in
theorem of_no (u : Value) (l : List St) (w : World) (h : Okw w) (hu : StRuns w u l) (hl : l.length ≤ 1000000) (hf : stFit l) (he : stErr l ≠ 0) : Calls Tryd.prog 11 #[u] w (OfPost l w) := by
  unfold OfPost
  have hof : ofS l = [] := by
    rw [ofS, if_neg]
    intro hg
    exact he (by rw [stErr, hg]; rfl)
  rw [hof]
  have c := check_any l hl hf w u h hu
  obtain ⟨er, her⟩ : ∃ er, stErr l = er := ⟨_, rfl⟩
  rw [her] at c he ⊢
  have C := Lib.hid c
  clear c her
  have h1 : (er == 0) = false := by simpa using he
  go_enter Tryd.func11, Tryd.ntmps11
  go_wp2_with fail
  refine C.out.mono ?_
  rintro e w1 ⟨rfl, hb⟩
  go_wp2
  go_ret2
  exact ⟨_, rfl, World.ownsRow_nil _ _ _ _, hb⟩

set_option maxRecDepth 100000 in
set_option maxHeartbeats 2000000 in
theorem of_yes (u : Value) (L : List St) (w : World) (h : Okw w) (hu : StRuns w u L) (hl : L.length ≤ 1000000) (hf : stFit L) (he : stErr L = 0) : Calls Tryd.prog 11 #[u] w (OfPost L w) := by
  unfold OfPost
  have hg : L.all stGood = true := by
    cases hg : L.all stGood with
    | true => rfl
    | false => rw [stErr, hg] at he; cases he
  have hof := of_filter hg
  rw [he, ← hof]
  have HOF : Hid (((rowsP L).map blkOf).filter (fun b => decide (chkS b = 0)) = okB ((rowsP L).map blkOf)) := Lib.hid rfl
  rw [HOF.out]
  clear hof HOF
  have c := check_any L hl hf w u h hu
  rw [he] at c
  have C := Lib.hid c
  clear c he
  obtain ⟨A, cc, rfl, hcc, ⟨hm, hAn⟩, hxx⟩ := hu
  have hu : StRuns w (.slice A L.length cc) L := ⟨A, cc, rfl, hcc, ⟨hm, hAn⟩, hxx⟩
  obtain ⟨N, hN⟩ : ∃ N, L.length = N := ⟨_, rfl⟩
  obtain ⟨b, o, hA⟩ : ∃ b o, 0 < N → A = some ⟨b, o, none⟩ := by
    by_cases h0 : 0 < L.length
    · obtain ⟨b, o, e, _⟩ := hxx h0
      exact ⟨b, o, fun _ => e⟩
    · exact ⟨0, 0, fun h => absurd (hN ▸ h) h0⟩
  rw [hN] at hu hl hcc ⊢
  clear hxx hAn
  refine (callsIn_wide (n := 6)).1 ?_
  refine callsIn_of_wp_marks Tryd.func11 rfl trivial ?_ rfl
  simp only [Tryd.ntmps11, List.size_toArray, List.length_cons, List.length_nil, Nat.reduceAdd, Nat.reduceSub, Array.replicate_succ, Array.replicate_zero, List.push_toArray, List.append_toArray, List.nil_append, List.cons_append]
  gi_wp2_with fail
  refine ⟨trivial, ?_⟩
  gi_at_call 25
  rw [hN] at C
  refine (callsIn_wide.2 C.out).mono ?_
  rintro e w0 ⟨rfl, hbd⟩
  gi_wp2_with (refine ⟨trivial, ?_⟩; gi_at_call 26; refine (callsIn_wide.2 (blocksFn_any _ _ _ _)).mono ?_; rintro e w' ⟨rfl, rfl⟩)
  have hw0 := hbd.size
  have bL := Boxed.new w0 24 (.slice none 0 0)
  have bS := Boxed.new (w0.alloc (.cells #[.slice none 0 0] 24)) 22 (.slice A N cc)
  rw [World.size_alloc] at bS
  have hB0 : Below w.heap.size w ((w0.alloc (.cells #[.slice none 0 0] 24)).alloc (.cells #[.slice A N cc] 22)) := (hbd.alloc hw0 _).alloc (by simp; omega) _
  refine wp_range_box (by decide) (gf := 38) (lb := #[.pointer (some ⟨w0.heap.size + 1, 0, none⟩)]) rfl (enters_of Tryd.func38 (by kernel_rfl) rfl)
    (biter5 (w0.heap.size + 1) w.heap.size A N cc b o L hN hl hA hf w h rfl hu _ (by simp; omega) hB0 (by simp) bS.cell) Keep.trans (keepK_b (by simp; omega) (by simp)) (fun W o hW => Keep.of_below ((Below.refl _ W).alloc (Nat.le_refl _) _) (by simp at hW; omega) (by simp at hW; omega)) (Below.refl _ _) (fun _ => rfl)
    (fun (pre : List BkI) W => (∃ v, Boxed W w0.heap.size 24 v ∧ W.ownsRow w.heap.size 35 3 v (okB (bkL pre)).length (gCells blkCell (okB (bkL pre))) ∧ ∀ g, v.ownBlock = some g → g ≠ w0.heap.size + 1 ∧ (g < w0.heap.size + 4 ∨ w0.heap.size + 6 ≤ g)) ∧ Boxed W (w0.heap.size + 1) 22 (.slice A N cc) ∧ Below w.heap.size w W)
    ?own ?priv ⟨⟨_, bL.alloc _, World.ownsRow_nil _ _ _ _, by simp [Value.ownBlock]⟩, bS, hB0⟩
    (fun x k => { tmps := #[.slice A N cc, undef, .slice none 0 0, .int .i64 0, .int .i64 0, .pointer (some ⟨w0.heap.size, 0, none⟩), .pointer (some ⟨k, 0, none⟩), .slice A N cc, .int .i64 0, .int .i64 0, .bool false, undef, .slice A N cc, .func (.func 38) #[] #[.pointer (some ⟨w0.heap.size + 1, 0, none⟩)], .agg #[.string x.val.1, .string x.val.2.1, .int .i64 x.val.2.2], undef, undef, undef, undef, undef, undef, undef, undef], defers := [] })
    (fun x => .cells (blkCell x.val).toArray 35)
    ?assign ?body ?done
  case own =>
    intro pre X Y row hx hg hr
    obtain ⟨⟨v, hv1, hrow, hgv⟩, hS, hB⟩ := hx
    have hne : ∀ k, (∃ cs t, X.heap[k]? = some (.cells cs t (0, 0))) → some k ≠ row := by
      rintro k ⟨cs, t, hk⟩ e
      obtain ⟨_, o, ho, hc⟩ := hr k e.symm
      rw [hk] at ho; cases ho; cases hc
    refine ⟨⟨v, hv1.kept hg (hne _ ⟨_, _, hv1⟩), hrow.kept hg ?_, hgv⟩, hS.kept hg (hne _ ⟨_, _, hS⟩), ⟨hg.os.trans hB.os, hg.tape.trans hB.tape, hg.output.trans hB.output, Nat.le_trans hB.size hg.size, fun k hk => (hg.block k (Nat.lt_of_lt_of_le hk hB.size) (fun e => by have := (hr k e.symm).1; simp at this; omega)).trans (hB.block k hk)⟩⟩
    rcases hrow.2 with ⟨rfl, _⟩ | ⟨g', cap, cur, rfl, _, hgb, _⟩
    · exact .inl rfl
    · exact .inr (fun e => hne g' ⟨_, _, hgb⟩ (by simpa [Value.ownBlock] using e))
  case priv =>
    rintro pre X Y ⟨⟨v, hv1, hrow, hgv⟩, hS, hB⟩ hsz hp
    simp only [World.size_alloc] at hsz hp
    refine ⟨⟨v, (hp.1.block _ (by omega)).trans hv1, ⟨hrow.1, ?_⟩, hgv⟩, (hp.1.block _ (by omega)).trans hS, hB.trans (hp.1.mono (by omega))⟩
    rcases hrow.2 with h0 | ⟨g', cap, cur, rfl, h1, hgb, h2⟩
    · exact .inl h0
    · refine .inr ⟨g', cap, cur, rfl, h1, ?_, h2⟩
      rcases (hgv g' rfl).2 with h3 | h3
      · exact (hp.1.block _ (by omega)).trans hgb
      · exact hp.2 g' _ (by omega) hgb rfl
  case assign =>
    intro l x W K hK
    gi_wp2
    exact hK
  case body =>
    rintro l pre x W k hk0 ⟨⟨v, hv1, hrow, hgv⟩, hS, hB⟩ hkx hlt
    simp only [World.size_alloc] at hk0
    have hkl := (Array.getElem?_eq_some_iff.1 hkx).1
    obtain ⟨q1, q2⟩ := x.property
    have c1 := chk_any x.val.1 x.val.2.1 x.val.2.2 W (h.below hB) (by omega) (by omega)
    have C1 := Lib.hid c1; clear c1
    have p0 : W.cell? ⟨k, 0, none⟩ = some (.string x.val.1) := by simp [World.cell?, hkx, blkCell]
    have p1 : W.cell? ⟨k, 1, none⟩ = some (.string x.val.2.1) := by simp [World.cell?, hkx, blkCell]
    have p2 : W.cell? ⟨k, 2, none⟩ = some (.int .i64 x.val.2.2) := by simp [World.cell?, hkx, blkCell]
    obtain ⟨er, her⟩ : ∃ z, chkS (x.val.1, x.val.2.1, x.val.2.2) = z := ⟨_, rfl⟩
    rw [her] at C1
    have her' : chkS x.val = er := her
    gi_wp2_with fail
    refine ⟨trivial, ?_⟩
    gi_at_call 18
    refine (CallsIn.inRound l (callsIn_wide.2 C1.out)).mono ?_
    rintro e w1 ⟨rfl, hb1⟩
    have hs1 := hb1.size
    have hv1w : Boxed w1 w0.heap.size 24 v := (hb1.block _ (by omega)).trans hv1
    have hS1 : Boxed w1 (w0.heap.size + 1) 22 (.slice A N cc) := (hb1.block _ (by omega)).trans hS
    have hrow1 := own_below hrow hb1
    have hB1 : Below w.heap.size w w1 := hB.trans (hb1.mono hB.size)
    have hkp1 : Keep w.heap.size (w0.heap.size + 1) W w1 := Keep.of_below hb1 hB.size (by omega)
    have hkt1 : KeepsTwo (w0.heap.size + 1 + 1 + 2) W w1 := fun j h1 h2 => hb1.block j (by omega)
    by_cases hz : er = 0
    · subst hz
      have hle := okB_len (bkL pre)
      have hbl : (bkL pre).length = pre.length := by simp [bkL]
      have hx1 : w1.heap[k]? = some (.cells (blkCell x.val).toArray 35 (0, 0)) := (hb1.block k hkl).trans hkx
      have r0 : w1.cell? ⟨k, 0, none⟩ = some (.string x.val.1) := by simp [World.cell?, hx1, blkCell]
      have r1 : w1.cell? ⟨k, 1, none⟩ = some (.string x.val.2.1) := by simp [World.cell?, hx1, blkCell]
      have r2 : w1.cell? ⟨k, 2, none⟩ = some (.int .i64 x.val.2.2) := by simp [World.cell?, hx1, blkCell]
      obtain ⟨v', w2, hrun, hown', hgrow, hat⟩ := append_one (P := Tryd.prog) blk_len bk_one info_bk rfl (by decide) (by decide) Tryd.underlying24 w1 w.heap.size v _ _ hrow1 x.val hB1.size (by omega)
      obtain ⟨g', cap', rfl⟩ := ownsRow_succ hown'
      have hS2 := ((hS1.alloc (.cells (blkCell x.val).toArray 35)).kept hgrow (fun e => (hgv _ e.symm).1 rfl)).other (by omega : w0.heap.size + 1 ≠ w0.heap.size) (.slice (some ⟨g', 0, none⟩) ((okB (bkL pre)).length + 1) cap')
      obtain ⟨hv1', hv2, hr2, hk2, hb2⟩ := hv1w.appended (by decide) hrow1 hB1.size (by omega) hown' hgrow
      have hc1 := hv1w.cell
      have hc2 := hv1'.cell
      have hf2 := hv1'.frozen
      have HR := Lib.hid hrun
      clear hrun
      gi_wp2_with (gi_at_builtin; refine wpListIn_append_runH _ _ _ _ _ _ _ rfl rfl HR.out rfl rfl ?_)
      refine ⟨(kf_below hb1).trans (hk2.from _), ?_, hkp1.trans ⟨hb2, Eq.trans hS2 (Eq.symm hS1)⟩, ⟨_, hv2, ?_, ?_⟩, hS2, hB1.trans hb2⟩
      · intro j h1 h2
        simp only [World.size_alloc] at h1 h2
        exact (Below.heap_setCell _ _ _ j (by show j ≠ w0.heap.size; omega)).trans ((hgrow.block j (by simp; omega) (fun e => by have := (hgv j e.symm).2; omega)).trans ((Below.heap_alloc _ _ _ (by omega)).trans (hb1.block j (by omega))))
      · rw [bkL_snoc, okB_yes _ _ her', gCells_snoc]
        simpa using hr2
      · intro g hg
        obtain rfl : g' = g := by simpa [Value.ownBlock] using hg
        rcases hat with h3 | h3
        · exact hgv g' (by rw [← h3]; rfl)
        · have : g' = w1.heap.size + 1 := by simpa [Value.ownBlock] using h3
          omega
    · have hz' : (er == 0) = false := by simpa using hz
      gi_wp2
      exact ⟨kf_below hb1, by simpa using hkt1, hkp1, ⟨v, hv1w, by rw [bkL_snoc, okB_no _ _ (by rw [her']; exact hz)]; exact hrow1, hgv⟩, hS1, hB1⟩
  case done =>
    rintro D ys W hD hys ⟨⟨v, hv1, hrow, _⟩, hS, hB⟩ hK
    have hc := hv1.cell
    gi_wp2
    refine ⟨by simp, .inl ⟨_, _, rfl, run_takeDeferred hK, ?_⟩⟩
    refine ⟨_, results_tmp2 rfl _ _ _, ?_⟩
    rw [hys] at hrow
    exact ⟨v, rfl, ownsRow_putObj (W := W) hrow _ hK rfl, hB.trans (belowK_b (w := w) (Nat.le_refl _) W D _ _ (by simp at hD; omega) hK rfl rfl)⟩

theorem of_own (u : Value) (l : List St) (w : World) (h : Okw w) (hu : StRuns w u l) (hl : l.length ≤ 1000000) (hf : stFit l) : Calls Tryd.prog 11 #[u] w (OfPost l w) := by
  by_cases he : stErr l = 0
  · exact of_yes u l w h hu hl hf he
  · exact of_no u l w h hu hl hf he
end Go.Proofs.YtlicchblafodaaaDoor

/- block.Long: how many blocks of steps are too long, or why a step may not be. -/
namespace Go.Proofs.YtlicchblafodaaaDoor
open Go.RowKit Go.Shelf
attribute [local go_sem] Oper.semAt_some blkV

/-- How many are too long. -/
def lgB (l : List Blk) : Nat := (l.filter (fun b => decide (chkS b = 5))).length
theorem lgB_yes (l : List Blk) (x : Blk) (h : chkS x = 5) : lgB (l ++ [x]) = lgB l + 1 := by simp [lgB, h]
theorem lgB_no (l : List Blk) (x : Blk) (h : chkS x ≠ 5) : lgB (l ++ [x]) = lgB l := by simp [lgB, h]
theorem lgB_len (l : List Blk) : lgB l ≤ l.length := List.length_filter_le _ _
def LongPost (l : List St) (w : World) (e : Ending) (w' : World) : Prop :=
  e = .returned (.tuple #[.int .i64 (longS l : Nat), .int .i64 (stErr l)]) ∧ Below w.heap.size w w'

set_option maxRecDepth 100000 in
set_option maxHeartbeats 2000000 in
theorem long_no (u : Value) (l : List St) (w : World) (h : Okw w) (hu : StRuns w u l) (hl : l.length ≤ 1000000) (hf : stFit l) (he : stErr l ≠ 0) : Calls Tryd.prog 13 #[u] w (LongPost l w) := by
  unfold LongPost
  have hof : longS l = 0 := by
    rw [longS, if_neg]
    intro hg
    exact he (by rw [stErr, hg]; rfl)
  rw [hof]
  have c := check_any l hl hf w u h hu
  obtain ⟨er, her⟩ : ∃ er, stErr l = er := ⟨_, rfl⟩
  rw [her] at c he ⊢
  have C := Lib.hid c
  clear c her
  have h1 : (er == 0) = false := by simpa using he
  go_enter Tryd.func13, Tryd.ntmps13
  go_wp2_with fail
  refine C.out.mono ?_
  rintro e w1 ⟨rfl, hb⟩
  go_wp2
  go_ret2
  exact ⟨rfl, hb⟩

set_option maxRecDepth 100000 in
set_option maxHeartbeats 2000000 in
theorem long_yes (u : Value) (L : List St) (w : World) (h : Okw w) (hu : StRuns w u L) (hl : L.length ≤ 1000000) (hf : stFit L) (he : stErr L = 0) : Calls Tryd.prog 13 #[u] w (LongPost L w) := by
  unfold LongPost
  have hg : L.all stGood = true := by
    cases hg : L.all stGood with
    | true => rfl
    | false => rw [stErr, hg] at he; cases he
  have hof := long_filter hg
  rw [he, ← hof]
  have HOF : Hid ((((rowsP L).map blkOf).filter (fun b => decide (chkS b = 5))).length = lgB ((rowsP L).map blkOf)) := Lib.hid rfl
  rw [HOF.out]
  clear hof HOF
  have c := check_any L hl hf w u h hu
  rw [he] at c
  have C := Lib.hid c
  clear c he
  obtain ⟨A, cc, rfl, hcc, ⟨hm, hAn⟩, hxx⟩ := hu
  have hu : StRuns w (.slice A L.length cc) L := ⟨A, cc, rfl, hcc, ⟨hm, hAn⟩, hxx⟩
  obtain ⟨N, hN⟩ : ∃ N, L.length = N := ⟨_, rfl⟩
  obtain ⟨b, o, hA⟩ : ∃ b o, 0 < N → A = some ⟨b, o, none⟩ := by
    by_cases h0 : 0 < L.length
    · obtain ⟨b, o, e, _⟩ := hxx h0
      exact ⟨b, o, fun _ => e⟩
    · exact ⟨0, 0, fun h => absurd (hN ▸ h) h0⟩
  rw [hN] at hu hl hcc ⊢
  clear hxx hAn
  refine (callsIn_wide (n := 6)).1 ?_
  refine callsIn_of_wp_marks Tryd.func13 rfl trivial ?_ rfl
  simp only [Tryd.ntmps13, List.size_toArray, List.length_cons, List.length_nil, Nat.reduceAdd, Nat.reduceSub, Array.replicate_succ, Array.replicate_zero, List.push_toArray, List.append_toArray, List.nil_append, List.cons_append]
  gi_wp2_with fail
  refine ⟨trivial, ?_⟩
  gi_at_call 25
  rw [hN] at C
  refine (callsIn_wide.2 C.out).mono ?_
  rintro e w0 ⟨rfl, hbd⟩
  gi_wp2_with (refine ⟨trivial, ?_⟩; gi_at_call 26; refine (callsIn_wide.2 (blocksFn_any _ _ _ _)).mono ?_; rintro e w' ⟨rfl, rfl⟩)
  have hw0 := hbd.size
  have bL := Boxed.new w0 3 (.int .i64 0)
  have bS := Boxed.new (w0.alloc (.cells #[.int .i64 0] 3)) 22 (.slice A N cc)
  rw [World.size_alloc] at bS
  have hB0 : Below w.heap.size w ((w0.alloc (.cells #[.int .i64 0] 3)).alloc (.cells #[.slice A N cc] 22)) := (hbd.alloc hw0 _).alloc (by simp; omega) _
  refine wp_range_box (by decide) (gf := 38) (lb := #[.pointer (some ⟨w0.heap.size + 1, 0, none⟩)]) rfl (enters_of Tryd.func38 (by kernel_rfl) rfl)
    (biter5 (w0.heap.size + 1) w.heap.size A N cc b o L hN hl hA hf w h rfl hu _ (by simp; omega) hB0 (by simp) bS.cell) Keep.trans (keepK_b (by simp; omega) (by simp)) (fun W o hW => Keep.of_below ((Below.refl _ W).alloc (Nat.le_refl _) _) (by simp at hW; omega) (by simp at hW; omega)) (Below.refl _ _) (fun _ => rfl)
    (fun (pre : List BkI) W => Boxed W w0.heap.size 3 (.int .i64 (lgB (bkL pre) : Nat)) ∧ Boxed W (w0.heap.size + 1) 22 (.slice A N cc) ∧ Below w.heap.size w W)
    ?own ?priv ⟨bL.alloc _, bS, hB0⟩
    (fun x k => { tmps := #[.slice A N cc, undef, .int .i64 0, .int .i64 0, .int .i64 0, .pointer (some ⟨w0.heap.size, 0, none⟩), .pointer (some ⟨k, 0, none⟩), .slice A N cc, .int .i64 0, .int .i64 0, .bool false, undef, .slice A N cc, .func (.func 38) #[] #[.pointer (some ⟨w0.heap.size + 1, 0, none⟩)], .agg #[.string x.val.1, .string x.val.2.1, .int .i64 x.val.2.2], undef, undef, undef, undef, undef, undef], defers := [] })
    (fun x => .cells (blkCell x.val).toArray 35)
    ?assign ?body ?done
  case own =>
    intro pre X Y row hx hg hr
    obtain ⟨hv1, hS, hB⟩ := hx
    have hne : ∀ k, (∃ cs t, X.heap[k]? = some (.cells cs t (0, 0))) → some k ≠ row := by
      rintro k ⟨cs, t, hk⟩ e
      obtain ⟨_, o, ho, hc⟩ := hr k e.symm
      rw [hk] at ho; cases ho; cases hc
    exact ⟨hv1.kept hg (hne _ ⟨_, _, hv1⟩), hS.kept hg (hne _ ⟨_, _, hS⟩), ⟨hg.os.trans hB.os, hg.tape.trans hB.tape, hg.output.trans hB.output, Nat.le_trans hB.size hg.size, fun k hk => (hg.block k (Nat.lt_of_lt_of_le hk hB.size) (fun e => by have := (hr k e.symm).1; simp at this; omega)).trans (hB.block k hk)⟩⟩
  case priv =>
    rintro pre X Y ⟨hv1, hS, hB⟩ hsz hp
    simp only [World.size_alloc] at hsz hp
    exact ⟨(hp.1.block _ (by omega)).trans hv1, (hp.1.block _ (by omega)).trans hS, hB.trans (hp.1.mono (by omega))⟩
  case assign =>
    intro l x W K hK
    gi_wp2
    exact hK
  case body =>
    rintro l pre x W k hk0 ⟨hv1, hS, hB⟩ hkx hlt
    simp only [World.size_alloc] at hk0
    have hkl := (Array.getElem?_eq_some_iff.1 hkx).1
    obtain ⟨q1, q2⟩ := x.property
    have c1 := chk_any x.val.1 x.val.2.1 x.val.2.2 W (h.below hB) (by omega) (by omega)
    have C1 := Lib.hid c1; clear c1
    have p0 : W.cell? ⟨k, 0, none⟩ = some (.string x.val.1) := by simp [World.cell?, hkx, blkCell]
    have p1 : W.cell? ⟨k, 1, none⟩ = some (.string x.val.2.1) := by simp [World.cell?, hkx, blkCell]
    have p2 : W.cell? ⟨k, 2, none⟩ = some (.int .i64 x.val.2.2) := by simp [World.cell?, hkx, blkCell]
    obtain ⟨er, her⟩ : ∃ z, chkS (x.val.1, x.val.2.1, x.val.2.2) = z := ⟨_, rfl⟩
    rw [her] at C1
    have her' : chkS x.val = er := her
    gi_wp2_with fail
    refine ⟨trivial, ?_⟩
    gi_at_call 18
    refine (CallsIn.inRound l (callsIn_wide.2 C1.out)).mono ?_
    rintro e w1 ⟨rfl, hb1⟩
    have hs1 := hb1.size
    have hv1w : Boxed w1 w0.heap.size 3 (.int .i64 (lgB (bkL pre) : Nat)) := (hb1.block _ (by omega)).trans hv1
    have hS1 : Boxed w1 (w0.heap.size + 1) 22 (.slice A N cc) := (hb1.block _ (by omega)).trans hS
    have hB1 : Below w.heap.size w w1 := hB.trans (hb1.mono hB.size)
    have hkp1 : Keep w.heap.size (w0.heap.size + 1) W w1 := Keep.of_below hb1 hB.size (by omega)
    have hkt1 : KeepsTwo (w0.heap.size + 1 + 1 + 2) W w1 := fun j h1 h2 => hb1.block j (by omega)
    have hle := lgB_len (bkL pre)
    have hbl : (bkL pre).length = pre.length := by simp [bkL]
    by_cases hz : er = 5
    · subst hz
      have hc1 := hv1w.cell
      have hf1 := hv1w.frozen
      have hnx := lgB_yes (bkL pre) _ her'
      rw [← bkL_snoc] at hnx
      obtain ⟨q, hq⟩ : ∃ q, lgB (bkL pre) = q := ⟨_, rfl⟩
      rw [hq] at hc1 hle hv1w hnx
      gi_wp2
      have hq' : ((lgB (bkL (pre ++ [x])) : Nat) : Int) = (q : Int) + 1 := by rw [hnx]; simp
      refine ⟨(kf_below hb1).trans ((KeepsOthers.setCell _ _ _).from _), fun j h1 h2 => ?_, hkp1.trans ⟨(Below.refl _ _).setCell (by show w.heap.size ≤ w0.heap.size; omega) _, (hS1.other (by omega) _).trans hS1.symm⟩, by rw [hq']; exact hv1w.set _, hS1.other (by omega) _, hB1.setCell (by show w.heap.size ≤ w0.heap.size; omega) _⟩
      simp only [World.size_alloc] at h1 h2
      exact (Below.heap_setCell _ _ _ j (by show j ≠ w0.heap.size; omega)).trans (hb1.block j (by omega))
    · have hz' : (er == 5) = false := by simpa using hz
      have hnx := lgB_no (bkL pre) _ (show chkS x.val ≠ 5 by rw [her']; exact hz)
      rw [← bkL_snoc] at hnx
      gi_wp2
      exact ⟨kf_below hb1, by simpa using hkt1, hkp1, by rw [hnx]; exact hv1w, hS1, hB1⟩
  case done =>
    rintro D ys W hD hys ⟨hv1, hS, hB⟩ hK
    have hc := hv1.cell
    gi_wp2
    refine ⟨by simp, .inl ⟨_, _, rfl, run_takeDeferred hK, ?_⟩⟩
    refine ⟨_, results_tmp2 rfl _ _ _, ?_⟩
    exact ⟨rfl, hB.trans (belowK_b (w := w) (Nat.le_refl _) W D _ _ (by simp at hD; omega) hK rfl rfl)⟩

theorem long_any (u : Value) (l : List St) (w : World) (h : Okw w) (hu : StRuns w u l) (hl : l.length ≤ 1000000) (hf : stFit l) : Calls Tryd.prog 13 #[u] w (LongPost l w) := by
  by_cases he : stErr l = 0
  · exact long_yes u l w h hu hl hf he
  · exact long_no u l w h hu hl hf he
end Go.Proofs.YtlicchblafodaaaDoor

