/- Texts that several proofs of this seat share, one behind the other: KWord ZDawg Compare ZBin ZBy. -/
import Derived.Test.YtnjhbblhlgpgdaaDoorPk7
import Derived.Test.YtnjhbblhlgpgdaaDoorPk2
import Derived.Test.YtnjhbblhlgpgdaaDoorPk3
import Derived.Test.YtnjhbblhlgpgdaaDoorPk10
import Derived.Test.YtnjhbblhlgpgdaaDoorPk1
import Derived.Test.YtnjhbblhlgpgdaaDoorProg
import Derived.Deep.LoopGhost
import Derived.BigRegion
import Derived.Shelf.SlSortCmp.QuietGrown
/- Words as runes: they rise as their texts do; which words begin so, which are found, as rests. -/
namespace Go.Proofs.YtnjhbblhlgpgdaaDoor
open Go.RowKit Go.Shelf
set_option linter.unusedSimpArgs false
set_option linter.unusedVariables false

theorem cmpL_ltI : ∀ x y : List Int, cmpL x y = -1 ↔ x < y := by
  intro x
  induction x with
  | nil =>
    intro y
    cases y with
    | nil => simp [cmpL]
    | cons b y => simp [cmpL, List.nil_lt_cons]
  | cons a x ih =>
    intro y
    cases y with
    | nil => simp [cmpL]
    | cons b y =>
      rw [cmpL, List.cons_lt_cons_iff]
      by_cases h1 : a < b
      · rw [if_pos h1]; exact ⟨fun _ => .inl h1, fun _ => rfl⟩
      · rw [if_neg h1]
        by_cases h2 : b < a
        · rw [if_pos h2]
          exact ⟨fun h => absurd h (by decide), fun h => by omega⟩
        · rw [if_neg h2, ih y]
          have e : a = b := by omega
          exact ⟨fun h => .inr ⟨e, h⟩, fun h => h.elim (fun h => absurd h h1) (·.2)⟩
/-- The runes of a text. -/
def rnK (s : ByteArray) : List Int := items s.data.toList
theorem ltK_runes {a b : ByteArray} (ha : Lib.validD a.data.toList = true) (hb : Lib.validD b.data.toList = true) : ltK a b = true ↔ rnK a < rnK b := by
  have hcmp := cmp_enc (items a.data.toList) (items b.data.toList) (items_runes _ ha) (items_runes _ hb)
  rw [enc_items _ ha, enc_items _ hb] at hcmp
  rw [ltK_iff, ← (compareBytes_lt _ _).1, hcmp, cmpL_ltI]
  exact Iff.rfl
theorem rnK_inj {a b : ByteArray} (ha : Lib.validD a.data.toList = true) (hb : Lib.validD b.data.toList = true) (h : rnK a = rnK b) : a = b := by
  have e : items a.data.toList = items b.data.toList := h
  have h1 := enc_items _ ha
  rw [e, enc_items _ hb] at h1
  exact key_ext h1.symm
theorem tok_valid {s : List UInt8} (h : tokErr s = 0) : Lib.validD s = true := by
  unfold tokErr at h
  split at h
  · assumption
  · cases h
theorem wchk_valid {x : Wrd} (h : wchk x = 0) : Lib.validD x.1.data.toList = true := by
  unfold wchk at h
  split at h
  · rename_i h0; exact tok_valid h0
  · rename_i h0; exact absurd h h0
/-- Words as runes. -/
def rnW (l : List Wrd) : List (List Int) := l.map (fun x => rnK x.1)
theorem rnW_rising {l : List Wrd} (h : wisS l = 0) : (rnW l).Pairwise (· < ·) := by
  obtain ⟨h1, h2, h3⟩ := wisS_facts h
  have hv := fun b hb => wchk_valid (wall_zero.1 h1 b hb)
  clear h h1 h3
  induction l with
  | nil => exact List.Pairwise.nil
  | cons a l ih =>
    rw [rnW, List.map_cons, List.pairwise_cons]
    refine ⟨fun y hy => ?_, ih h2.2 (fun b hb => hv b (by simp [hb]))⟩
    obtain ⟨b, hb, rfl⟩ := List.mem_map.1 hy
    exact (ltK_runes (hv a (by simp)) (hv b (by simp [hb]))).1 (h2.1 b hb)
theorem mem_rnW {l : List Wrd} (h : wisS l = 0) {s : ByteArray} (hs : Lib.validD s.data.toList = true) : rnK s ∈ rnW l ↔ ∃ b ∈ l, b.1 = s := by
  have hv := fun b hb => wchk_valid (wall_zero.1 (wisS_facts h).1 b hb)
  rw [rnW, List.mem_map]
  constructor
  · rintro ⟨b, hb, e⟩
    exact ⟨b, hb, rnK_inj (hv b hb) hs e⟩
  · rintro ⟨b, hb, rfl⟩
    exact ⟨b, hb, rfl⟩
/-- How frequent words are changes no runes. -/
theorem rnW_same {l m : List Wrd} (h : l.map (·.1) = m.map (·.1)) : rnW l = rnW m := by
  have e : ∀ l : List Wrd, rnW l = (l.map (·.1)).map rnK := fun l => by rw [rnW, List.map_map]; rfl
  rw [e, e, h]
theorem encL_prefixK {a b : List Int} (ha : ∀ r ∈ a, Lib.validRune r = true) (hb : ∀ r ∈ b, Lib.validRune r = true) : encL a <+: encL b ↔ a <+: b := by
  constructor
  · rintro ⟨t, ht⟩
    have h1 := (items_encL a t ha).1
    have h2 := (items_encL b [] hb).1
    rw [ht, show encL b = encL b ++ [] from (List.append_nil _).symm, h2] at h1
    rw [show items [] = [] from rfl, List.append_nil] at h1
    exact ⟨_, h1.symm⟩
  · rintro ⟨t, ht⟩
    rw [← ht, encL_append]
    exact List.prefix_append _ _
theorem preK_runes {s x : ByteArray} (hs : Lib.validD s.data.toList = true) (hx : Lib.validD x.data.toList = true) : preK s x = true ↔ rnK s <+: rnK x := by
  rw [preK_iff]
  have h2 := encL_prefixK (items_runes _ hs) (items_runes _ hx)
  rw [enc_items _ hs, enc_items _ hx] at h2
  exact h2
/-- Words begin with a text just where its runes go on from the first state. -/
theorem begins_beh {l : List Wrd} (h : wisS l = 0) {s : ByteArray} (hs : Lib.validD s.data.toList = true) : behP (rnW l) (rnK s) ≠ [] ↔ 0 < bgN l s := by
  have hv := fun b hb => wchk_valid (wall_zero.1 (wisS_facts h).1 b hb)
  have hsr := (wisS_facts h).2.1
  rw [behP_ne]
  constructor
  · rintro ⟨t, ht⟩
    obtain ⟨b, hb, e⟩ := List.mem_map.1 ht
    obtain ⟨i, hi⟩ := List.mem_iff_getElem?.1 hb
    have h1 := beg_just hsr s i b hi
    rw [(preK_runes hs (hv b hb)).2 ⟨t, e.symm⟩] at h1
    have h2 := h1.symm
    rw [Bool.and_eq_true, decide_eq_true_eq, decide_eq_true_eq] at h2
    omega
  · intro h1
    have h2 := bgN_le l s
    have h3 : l[bgF l s]? = some l[bgF l s] := List.getElem?_eq_getElem (by omega)
    have h4 := beg_just hsr s _ _ h3
    rw [decide_eq_true (show ((bgF l s : Nat) : Int) ≥ (bgF l s : Int) by omega), decide_eq_true (show ((bgF l s : Nat) : Int) < (bgF l s : Int) + (bgN l s : Int) by omega)] at h4
    obtain ⟨t, ht⟩ := (preK_runes hs (hv _ (List.getElem_mem _))).1 h4
    exact ⟨t, List.mem_map.2 ⟨_, List.getElem_mem _, ht.symm⟩⟩
theorem srt_freq (f : Int) : ∀ l : List Wrd, SrtW l → SrtW (l.map fun b => (b.1, f)) := by
  intro l
  induction l with
  | nil => exact fun h => h
  | cons a l ih =>
    intro h
    refine ⟨fun b hb => ?_, ih h.2⟩
    obtain ⟨c, hc, rfl⟩ := List.mem_map.1 hb
    exact h.1 c hc
/-- Words stay normal, whatever numbers within bounds they bear. -/
theorem wisS_freq {l : List Wrd} (h : wisS l = 0) {f : Int} (h1 : 1 ≤ f) (h2 : f ≤ 1073741824) : wisS (l.map fun b => (b.1, f)) = 0 := by
  obtain ⟨g1, g2, g3⟩ := wisS_facts h
  have k1 : wall (l.map fun b => (b.1, f)) = 0 := wall_zero.2 (fun b hb => by
    obtain ⟨c, hc, rfl⟩ := List.mem_map.1 hb
    have := wall_zero.1 g1 c hc
    unfold wchk at this ⊢
    split at this
    · rename_i h0
      rw [if_pos h0, if_neg (by show ¬ (f < 1 ∨ 1073741824 < f); omega)]
    · rename_i h0
      exact absurd this h0)
  unfold wisS
  rw [if_pos k1, if_pos ((ordW_srt _).2 (srt_freq f l g2)), if_neg (by rw [List.length_map]; omega)]
/-- Gathered words have the same texts. -/
theorem wor_keys {l : List Wrd} (h : worE l = 0) (k : ByteArray) : (∃ z ∈ worS l, z.1 = k) ↔ ∃ y ∈ l, y.1 = k := by
  have hw : wall l = 0 := by
    unfold worE at h
    split at h
    · assumption
    · rename_i h0; exact absurd h h0
  have hf := frB_of hw
  rw [worS_eq h]
  constructor
  · rintro ⟨z, hz, rfl⟩
    obtain ⟨y, hy, e⟩ := nrmW_keys l z hz
    exact ⟨y, hy, e.symm⟩
  · intro h2
    obtain ⟨y, hy, rfl⟩ := h2
    refine Classical.byContradiction fun h3 => ?_
    have h4 := nrmW_frq hf y.1
    have h5 := frq_pos hf hy
    rw [(frq_zero (nrmW_frB hf)).2 (fun b hb e => h3 ⟨b, hb, e⟩)] at h4
    omega
/-- One word more among normal words: its runes come to theirs. -/
theorem rnW_more {l : List Wrd} {x : Wrd} (hl : wisS l = 0) (h : worE (l ++ [x]) = 0) (y : List Int) : y ∈ rnW (worS (l ++ [x])) ↔ y ∈ rnW l ∨ y = rnK x.1 := by
  have key : ∀ m : List Wrd, y ∈ rnW m ↔ ∃ k, (∃ z ∈ m, z.1 = k) ∧ rnK k = y := fun m => by
    rw [rnW, List.mem_map]
    exact ⟨fun ⟨z, hz, e⟩ => ⟨z.1, ⟨z, hz, rfl⟩, e⟩, fun ⟨k, ⟨z, hz, e⟩, e2⟩ => ⟨z, hz, by rw [e]; exact e2⟩⟩
  rw [key, key]
  constructor
  · rintro ⟨k, hk, e⟩
    obtain ⟨z, hz, e2⟩ := (wor_keys h k).1 hk
    rcases List.mem_append.1 hz with hz | hz
    · exact .inl ⟨k, ⟨z, hz, e2⟩, e⟩
    · rw [List.mem_singleton] at hz
      subst hz
      exact .inr (by rw [← e, ← e2])
  · rintro (⟨k, ⟨z, hz, e2⟩, e⟩ | rfl)
    · exact ⟨k, (wor_keys h k).2 ⟨z, by simp [hz], e2⟩, e⟩
    · exact ⟨x.1, (wor_keys h x.1).2 ⟨x, by simp, rfl⟩, rfl⟩
end Go.Proofs.YtnjhbblhlgpgdaaDoor

/- The automaton of words as it lies; States, Edges, Len, state, out, check: what they answer. -/
namespace Go.Proofs.YtnjhbblhlgpgdaaDoor
open Go.RowKit Go.Shelf
attribute [local go_sem] Oper.semAt_some
set_option linter.unusedSimpArgs false
set_option linter.unusedVariables false

/-- How frequent words are, as cells. -/
def frCell (x : Wrd) : List Value := [.int .i64 x.2]
theorem fr_ln (x : Wrd) : (frCell x).length = 1 := rfl
theorem fr_one (x : Wrd) : ∀ u ∈ frCell x, u.oneCell' = true := by
  intro u hu
  simp only [frCell, List.mem_cons, List.mem_nil_iff, or_false] at hu
  subst hu; rfl
/-- The automaton of words, as it lies at d: Q its states. -/
structure DgAt (w : World) (d : Nat) (Q : List Rst) (L : List Wrd) : Prop where
  run : ∃ vs ve vf, w.heap[d]? = some (.cells #[vs, ve, vf] 82) ∧ GRuns stCell 3 w vs (staK Q Q.length) ∧ GRuns edCell 3 w ve (edK Q Q.length) ∧ GRuns frCell 1 w vf L
theorem DgAt.below {w w' : World} {d : Nat} {Q : List Rst} {L : List Wrd} (h : DgAt w d Q L) (hb : Below w.heap.size w w') : DgAt w' d Q L := by
  obtain ⟨vs, ve, vf, h1, h2, h3, h4⟩ := h.run
  exact ⟨vs, ve, vf, (hb.block d (Array.getElem?_eq_some_iff.1 h1).1).trans h1, h2.below hb, h3.below hb, h4.below hb⟩
theorem DgAt.lt {w : World} {d : Nat} {Q : List Rst} {L : List Wrd} (h : DgAt w d Q L) : d < w.heap.size := by
  obtain ⟨vs, ve, vf, h1, _⟩ := h.run
  exact (Array.getElem?_eq_some_iff.1 h1).1
theorem staK_len (Q : List Rst) (k : Nat) : (staK Q k).length = k := by unfold staK; rw [List.length_map, List.length_range]
theorem staK_at {Q : List Rst} {k i : Nat} (h : i < k) : (staK Q k)[i]? = some (staL Q i) := by
  unfold staK
  rw [List.getElem?_map, List.getElem?_range h]; rfl
theorem DgAt.parts {w : World} {d : Nat} {Q : List Rst} {L : List Wrd} (h : DgAt w d Q L) : ∃ As cs Ae ce Af cf, w.cell? ⟨d, 0, none⟩ = some (.slice As Q.length cs) ∧ w.cell? ⟨d, 1, none⟩ = some (.slice Ae (edK Q Q.length).length ce) ∧ w.cell? ⟨d, 2, none⟩ = some (.slice Af L.length cf) ∧
    GRuns stCell 3 w (.slice As Q.length cs) (staK Q Q.length) ∧ GRuns edCell 3 w (.slice Ae (edK Q Q.length).length ce) (edK Q Q.length) ∧ GRuns frCell 1 w (.slice Af L.length cf) L := by
  obtain ⟨vs, ve, vf, h1, h2, h3, h4⟩ := h.run
  obtain ⟨As, cs, e1⟩ := h2.slice
  obtain ⟨Ae, ce, e2⟩ := h3.slice
  obtain ⟨Af, cf, e3⟩ := h4.slice
  rw [staK_len] at e1
  subst e1 e2 e3
  refine ⟨As, cs, Ae, ce, Af, cf, ?_, ?_, ?_, h2, h3, h4⟩ <;> (rw [cell_of_row _ _ _ _ _ (0, 0) h1]; rfl)
theorem gr_sliced {α : Type} {enc : α → List Value} {k : Nat} {w : World} {A : Option Addr} {n c : Nat} {l : List α} (h : GRuns enc k w (.slice A n c) l) (hn : l.length = n) (i m : Nat) (hi : i ≤ m) (hm : m ≤ n) : GRuns enc k w (sliced A i m c k) ((l.drop i).take (m - i)) := by
  obtain ⟨A', c', e, hlc, ⟨hcm, hc0⟩, hx⟩ := h
  obtain ⟨rfl, rfl⟩ : A = A' ∧ c = c' := by simp at e; exact ⟨e.1, e.2.2⟩
  have hl : ((l.drop i).take (m - i)).length = m - i := by rw [List.length_take, List.length_drop]; omega
  refine ⟨if c = i then A else A.map (·.add (i * k)), c - i, by rw [hl]; rfl, by omega, ⟨by omega, fun e2 => ?_⟩, fun h0 => ?_⟩
  · split at e2
    · omega
    · cases A with
      | none => have := hc0 rfl; omega
      | some a => cases e2
  · rw [hl] at h0
    obtain ⟨b, o, eA, hb, hc⟩ := hx (by omega)
    subst eA
    refine ⟨b, o + i * k, ?_, hb, fun j x hj u v hu => ?_⟩
    · rw [if_neg (by omega)]
      simp [Addr.add]
    · have hj2 : l[i + j]? = some x := by
        rw [List.getElem?_take] at hj
        split at hj
        · rwa [List.getElem?_drop] at hj
        · cases hj
      have := hc (i + j) x hj2 u v hu
      rwa [show o + (i + j) * k + u = o + i * k + j * k + u by rw [Nat.add_mul]; omega] at this
theorem slice_edh {w : World} {A : Option Addr} {n c : Nat} {l : List Edg} (h : GRuns edCell 3 w (.slice A n c) l) (hn : l.length = n) (i m : Nat) (hi : i ≤ m) (hm : m ≤ n) :
    (∀ W, (Instr.slice 80 (.slice A n c) (some (.int .i32 (i : Int))) (some (.int .i32 (m : Int))) none).run Tryd.prog W = .ok (.slice (cutE A c i) (m - i) (c - i)) W) ∧ GRuns edCell 3 w (.slice (cutE A c i) (m - i) (c - i)) ((l.drop i).take (m - i)) := by
  have hr := gr_sliced h hn i m hi hm
  have hcap := gr_cap h
  refine ⟨fun W => ?_, by simpa [sliced, cutE] using hr⟩
  rw [run_slice_lh (ht := elemEd) (h0 := by omega) (h1 := by omega) (h2 := by omega), sizeEd]
  simp [Result.andThen, sliced, cutE]
/-- What New makes has so many states and edges that numbers hold them. -/
structure DgOk (Q : List Rst) (L : List Wrd) : Prop where
  q0 : 0 < Q.length
  qm : Q.length ≤ 5000001
  em : (edK Q Q.length).length ≤ 5000001
  lm : L.length ≤ 2000000

theorem bel_drewN (w : World) (n : Nat) : Below w.heap.size w (w.drewN n) := ⟨rfl, rfl, rfl, Nat.le_refl _, fun _ _ => rfl⟩
theorem states_any (w : World) (d : Nat) (Q : List Rst) (L : List Wrd) (h : DgAt w d Q L) (hk : DgOk Q L) : Calls Tryd.prog 15 #[.pointer (some ⟨d, 0, none⟩)] w fun e w' => e = .returned (.int .i64 (Q.length : Int)) ∧ w' = w := by
  obtain ⟨As, cs, Ae, ce, Af, cf, c0, c1, c2, _⟩ := h.parts
  obtain ⟨n, hn⟩ : ∃ z, Q.length = z := ⟨_, rfl⟩
  have h0 := hk.q0
  rw [hn] at c0 h0 ⊢
  have e1 : max (1 : Int) (n : Int) = (n : Int) := by omega
  clear h hk c1 c2 hn
  go_enter Tryd.func15, Tryd.ntmps15
  go_wp2
  go_ret
  exact ⟨by first | rfl | (simp; omega), rfl⟩
theorem edges_any (w : World) (d : Nat) (Q : List Rst) (L : List Wrd) (h : DgAt w d Q L) : Calls Tryd.prog 16 #[.pointer (some ⟨d, 0, none⟩)] w fun e w' => e = .returned (.int .i64 ((edK Q Q.length).length : Int)) ∧ w' = w := by
  obtain ⟨As, cs, Ae, ce, Af, cf, c0, c1, c2, _⟩ := h.parts
  obtain ⟨n, hn⟩ : ∃ z, (edK Q Q.length).length = z := ⟨_, rfl⟩
  rw [hn] at c1 ⊢
  clear h c0 c2 hn
  go_enter Tryd.func16, Tryd.ntmps16
  go_wp2
  go_ret
  exact ⟨rfl, rfl⟩
theorem len_any (w : World) (d : Nat) (Q : List Rst) (L : List Wrd) (h : DgAt w d Q L) : Calls Tryd.prog 18 #[.pointer (some ⟨d, 0, none⟩)] w fun e w' => e = .returned (.int .i64 (L.length : Int)) ∧ w' = w := by
  obtain ⟨As, cs, Ae, ce, Af, cf, c0, c1, c2, _⟩ := h.parts
  obtain ⟨n, hn⟩ : ∃ z, L.length = z := ⟨_, rfl⟩
  rw [hn] at c2 ⊢
  clear h c0 c1 hn
  go_enter Tryd.func18, Tryd.ntmps18
  go_wp2
  go_ret
  exact ⟨rfl, rfl⟩
theorem len_nil (w : World) : Calls Tryd.prog 18 #[.pointer none] w fun e w' => e = .returned (.int .i64 0) ∧ w' = w := by
  go_enter Tryd.func18, Tryd.ntmps18
  go_wp2
  go_ret
  exact ⟨rfl, rfl⟩
theorem state_any (w : World) (d : Nat) (Q : List Rst) (L : List Wrd) (h : DgAt w d Q L) (i : Nat) (hi : i < Q.length) : Calls Tryd.prog 42 #[.pointer (some ⟨d, 0, none⟩), .int .i64 (i : Int)] w fun e w' => e = .returned (.agg (stCell (staL Q i)).toArray) ∧ Below w.heap.size w w' := by
  obtain ⟨As, cs, Ae, ce, Af, cf, c0, c1, c2, hs, _⟩ := h.parts
  obtain ⟨b, o, rfl, hlt, hc⟩ := hs.cells (staK_len _ _) (by omega)
  have g0 := hc i _ (staK_at hi) 0 _ rfl
  have g1 := hc i _ (staK_at hi) 1 _ rfl
  have g2 := hc i _ (staK_at hi) 2 _ rfl
  show Calls Tryd.prog _ _ w fun e w' => e = .returned (.agg #[.int .i32 ((staL Q i).1 : Int), .int .i32 ((staL Q i).2.1 : Int), .bool (staL Q i).2.2]) ∧ _
  obtain ⟨⟨s1, s2, s3⟩, hst⟩ : ∃ z, staL Q i = z := ⟨_, rfl⟩
  obtain ⟨n, hn⟩ : ∃ z, Q.length = z := ⟨_, rfl⟩
  rw [hst] at g0 g1 g2 ⊢
  simp only [Nat.add_zero] at g0 g1 g2 ⊢
  rw [hn] at c0 hi
  have i1 : (i : Int) < (n : Int) := by omega
  have i2 : ((n : Int) == 0) = false := by simp; omega
  have i3 : ¬ (n : Int) = 0 := by omega
  have hb := bel_one w (.cells #[.int .i32 0, .int .i32 0, .bool false] 88)
  have k0 := cell_keep hb c0
  have k1 := cell_keep hb g0
  have k2 := cell_keep hb g1
  have k3 := cell_keep hb g2
  clear h c1 c2 hs hc hst hn c0 g0 g1 g2 hb
  go_enter Tryd.func42, Tryd.ntmps42
  go_wp2
  refine bodyPost_ret (v := .agg #[.int .i32 (s1 : Int), .int .i32 (s2 : Int), .bool s3]) ?_ rfl ⟨rfl, bel_one _ _⟩
  simp [results, Tryd.f42, go_sem]
theorem out_any (w : World) (d : Nat) (Q : List Rst) (L : List Wrd) (h : DgAt w d Q L) (hk : DgOk Q L) (i : Nat) (x : Rst) (hx : Q[i]? = some x) : Calls Tryd.prog 41 #[.pointer (some ⟨d, 0, none⟩), .agg (stCell (staL Q i)).toArray] w fun e w' => ∃ v, e = .returned v ∧ GRuns edCell 3 w' v (edE Q x) ∧ Below w.heap.size w w' := by
  obtain ⟨As, cs, Ae, ce, Af, cf, c0, c1, c2, _, hE, _⟩ := h.parts
  have hi : i < Q.length := (List.getElem?_eq_some_iff.1 hx).1
  obtain ⟨l1, l2⟩ := edK_le hi
  have hp := edK_part hx
  show Calls Tryd.prog _ #[_, .agg #[.int .i32 ((edK Q i).length : Int), .int .i32 ((edK Q (i + 1)).length : Int), .bool (decide ([] ∈ Q.getD i []))]] w _
  obtain ⟨n, hn⟩ : ∃ z, (edK Q Q.length).length = z := ⟨_, rfl⟩
  obtain ⟨a, ha⟩ : ∃ z, (edK Q i).length = z := ⟨_, rfl⟩
  obtain ⟨b, hb⟩ : ∃ z, (edK Q (i + 1)).length = z := ⟨_, rfl⟩
  obtain ⟨en, hen⟩ : ∃ z, decide ([] ∈ Q.getD i []) = z := ⟨_, rfl⟩
  rw [ha, hb] at l1 hp ⊢
  rw [hn] at l2 c1 hE
  rw [hb] at l2
  rw [hen]
  have hbd := hk.em
  rw [hn] at hbd
  have hb1 := bel_one w (.cells #[.int .i32 (a : Int), .int .i32 (b : Int), .bool en] 88)
  have hE1 := hE.below hb1
  obtain ⟨hr, hg⟩ := slice_edh hE1 hn a b l1 l2
  have e2 : ((edK Q Q.length).drop a).take (b - a) = edE Q x := by rw [← hp, List.drop_take]
  rw [e2] at hg
  have HG := Lib.hid hg; have HB := Lib.hid hb1
  have k1 := cell_keep hb1 c1
  have e0 := heap_alloc_new w (.cells #[.int .i32 (a : Int), .int .i32 (b : Int), .bool en] 88)
  obtain ⟨W, hW⟩ : ∃ z, w.alloc (.cells #[.int .i32 (a : Int), .int .i32 (b : Int), .bool en] 88) = z := ⟨_, rfl⟩
  obtain ⟨B, hB⟩ : ∃ z, w.heap.size = z := ⟨_, rfl⟩
  rw [hW] at e0 HG HB k1
  rw [hB] at e0
  have s0 : W.cell? ⟨B, 0, none⟩ = some (.int .i32 (a : Int)) := by rw [cell_of_row _ _ _ _ _ (0, 0) e0]; rfl
  have s1 : W.cell? ⟨B, 1, none⟩ = some (.int .i32 (b : Int)) := by rw [cell_of_row _ _ _ _ _ (0, 0) e0]; rfl
  have HW := Lib.hid hW; have HBB := Lib.hid hB
  clear h hk c0 c1 c2 hE hx hi hp hn ha hb hen hE1 hg hb1 e2 e0 hW hB hbd
  go_enter Tryd.func41, Tryd.ntmps41
  go_wp2
  rw [HW.out, HBB.out]
  go_quiet (fail)
  go_wp2
  go_ret
  exact ⟨_, rfl, HG.out.below (bel_drewN _ _), HB.out.trans ((bel_drewN _ _).mono HB.out.size)⟩
end Go.Proofs.YtnjhbblhlgpgdaaDoor

/- runes.Compare (slices.Compare, cmp.Compare): the order of two lists. -/
namespace Go.Proofs.YtnjhbblhlgpgdaaDoor
open Go.RowKit

theorem isNaN_any (x : Int) (w : World) : Calls Tryd.prog 93 #[.int .i32 x] w fun e w' => e = .returned (.bool false) ∧ w = w' := by
  go_enter Tryd.func93, Tryd.ntmps93
  go_wp2
  go_ret
  exact ⟨by simp, rfl⟩
def cmpI (x y : Int) : Int := if x < y then -1 else if y < x then 1 else 0
set_option maxHeartbeats 1000000 in
theorem cmp32_any (x y : Int) (w : World) : Calls Tryd.prog 66 #[.int .i32 x, .int .i32 y] w fun e w' => e = .returned (.int .i64 (cmpI x y)) ∧ w = w' := by
  by_cases h1 : x < y
  · go_enter Tryd.func66, Tryd.ntmps66
    go_wp2_with (go_at_call 93; refine (isNaN_any _ _).mono ?_; rintro e w' ⟨rfl, rfl⟩)
    go_ret
    exact ⟨ret_int (by simp [cmpI, h1]), rfl⟩
  · by_cases h2 : y < x
    · go_enter Tryd.func66, Tryd.ntmps66
      go_wp2_with (go_at_call 93; refine (isNaN_any _ _).mono ?_; rintro e w' ⟨rfl, rfl⟩)
      go_ret
      exact ⟨ret_int (by unfold cmpI; rw [if_neg (by omega), if_pos (by omega)]), rfl⟩
    · go_enter Tryd.func66, Tryd.ntmps66
      go_wp2_with (go_at_call 93; refine (isNaN_any _ _).mono ?_; rintro e w' ⟨rfl, rfl⟩)
      go_ret
      exact ⟨ret_int (by unfold cmpI; rw [if_neg (by omega), if_neg (by omega)]), rfl⟩

end Go.Proofs.YtnjhbblhlgpgdaaDoor

/- slices.BinarySearchFunc over edges: by their runes, by how many stand ahead. -/
namespace Go.Proofs.YtnjhbblhlgpgdaaDoor
open Go.RowKit Go.Shelf Go.Lib
open Go.Sort (grow alloc_eq_grow grow_grow)
set_option linter.unusedSimpArgs false
set_option linter.unusedVariables false

theorem z_below_grows (w : World) (q : Nat) (os : Array Obj) : Below w.heap.size w (grow (w.drewN q) os) :=
  ⟨rfl, rfl, rfl, by simp [grow, World.drewN], fun k hk => by
    show (w.heap ++ os)[k]? = _
    rw [Array.getElem?_append_left hk]⟩
theorem z_grow_cell {w : World} {p : Addr} {v : Value} (q : Nat) (os : Array Obj) (h : w.cell? p = some v) : (grow (w.drewN q) os).cell? p = some v := cell_keep (z_below_grows w q os) h
theorem cmpI_neg (x y : Int) : cmpI x y < 0 ↔ x < y := by
  unfold cmpI
  split
  · simp; assumption
  · split <;> simp <;> omega
theorem cmpI_zero (x y : Int) : cmpI x y = 0 ↔ x = y := by
  unfold cmpI
  split
  · simp; omega
  · split <;> simp <;> omega
/-- The element at a place is the one that is looked for. -/
def eAt (key : Edg → Int) (l : List Edg) (m : Nat) (t : Int) : Bool := match l[m]? with
  | some y => decide (key y = t)
  | none => false

def keyR (e : Edg) : Int := e.1
set_option maxRecDepth 100000 in
set_option maxHeartbeats 4000000 in
theorem clsR_lays (a : Int) (b c : Nat) (t : Int) (w : World) :
    Calls Tryd.prog 65 #[.agg #[.int .i32 a, .int .i32 (b : Int), .int .i32 (c : Int)], .int .i32 t] w fun e w' => e = .returned (.int .i64 (cmpI (keyR (a, b, c)) t)) ∧ ∃ q os, w' = grow (w.drewN q) os := by
  show Calls Tryd.prog _ _ w fun e w' => e = .returned (.int .i64 (cmpI a t)) ∧ _
  have c1 := fun w => cmp32_any a t w
  obtain ⟨r, hr⟩ : ∃ r, cmpI a t = r := ⟨_, rfl⟩
  rw [hr] at c1 ⊢
  have C1 := Lib.hid c1
  clear c1 hr
  have h1 : Hid (∀ o : Obj, ∃ q os, w.alloc o = grow (w.drewN q) os) := Lib.hid (fun o => ⟨0, _, by rw [alloc_eq_grow]; rfl⟩)
  go_enter Tryd.func65, Tryd.ntmps65
  go_wp2_with fail
  refine (C1.out _).mono ?_
  rintro e w1 ⟨rfl, rfl⟩
  go_wp2
  go_ret
  exact ⟨rfl, h1.out _⟩

set_option maxRecDepth 100000 in
set_option maxHeartbeats 8000000 in
theorem ebsR_any (A : Option Addr) (n c : Nat) (l : List Edg) (t : Int) (w : World) (hn : l.length = n) (hu : GRuns edCell 3 w (.slice A n c) l) (hl : n ≤ 6000000) (m : Nat) (hm : m ≤ n)
    (h1 : ∀ j y, j < m → l[j]? = some y → keyR y < t) (h2 : ∀ j y, m ≤ j → l[j]? = some y → ¬ keyR y < t) :
    Calls Tryd.prog 64 #[.slice A n c, .int .i32 t, .func (.func 65) #[] #[]] w fun e w' =>
      e = .returned (.tuple #[.int .i64 (m : Nat), .bool (eAt keyR l m t)]) ∧ Below w.heap.size w w' := by
  have C := Lib.hid clsR_lays
  obtain ⟨res, hres⟩ : ∃ z, eAt keyR l m t = z := ⟨_, rfl⟩
  rw [hres]
  have HR := Lib.hid hres; clear hres
  have HU := Lib.hid hu
  have H1 := Lib.hid h1; have H2 := Lib.hid h2; have HN := Lib.hid hn
  clear h1 h2 hn hu
  go_enter Tryd.func64, Tryd.ntmps64
  have hmix : Tryd.prog.follows .mixedOrders = true := by kernel_rfl
  have eg : ∀ args w, (callFunc 65 args).run Tryd.prog w = .ok (.enter 65 args) w := enters_of Tryd.func65 (by kernel_rfl) rfl
  have HEG := Lib.hid eg; clear eg
  go_wp2
  go_loopg [9, 10] n (fun kx s9 s10 wr => ∃ lo hi : Nat, s9 = .int .i64 lo ∧ s10 = .int .i64 hi ∧ lo ≤ m ∧ m ≤ hi ∧ hi ≤ n ∧ hi - lo ≤ kx ∧ Hid (Below w.heap.size w wr))
  case atStart => exact ⟨0, n, rfl, rfl, Nat.zero_le _, hm, Nat.le_refl _, by omega, Lib.hid (Below.refl _ _)⟩
  case round =>
    obtain ⟨lo, hi, rfl, rfl, hlo, hhi, hin, hg, BW⟩ := hrel
    by_cases hlh : lo < hi
    · obtain ⟨h, hh⟩ : ∃ h, (lo + hi) / 2 = h := ⟨_, rfl⟩
      have hz : ((lo : Int) + (hi : Int)) / 2 = (h : Int) := by omega
      have hn1 : h < n := by omega
      have i1 : (h : Int) < (n : Int) := by omega
      obtain ⟨⟨y1, y2, y3⟩, hy⟩ : ∃ y, l[h]? = some y := ⟨_, List.getElem?_eq_getElem (by rw [HN.out]; exact hn1)⟩
      obtain ⟨b, o, rfl, hblt, hc⟩ := (HU.out.below BW.out).cells HN.out (by omega)
      have g0 := hc h _ hy 0 _ rfl
      have g1 := hc h _ hy 1 _ rfl
      have g2 := hc h _ hy 2 _ rfl
      simp only [Nat.add_zero] at g0 g1 g2
      have c1 := fun w => C.out y1 y2 y3 t w
      have h3 := cmpI_neg (keyR (y1, y2, y3)) t
      obtain ⟨er, her⟩ : ∃ z, cmpI (keyR (y1, y2, y3)) t = z := ⟨_, rfl⟩
      simp only [her] at c1
      rw [her] at h3
      have HY1 : Hid (er < 0 → h < m) := Lib.hid (fun e => by
          rcases Nat.lt_or_ge h m with q | q
          · exact q
          · exact absurd (h3.1 e) (by have := H2.out h _ q hy; omega))
      have HY2 : Hid (¬ er < 0 → m ≤ h) := Lib.hid (fun e => by
          rcases Nat.lt_or_ge h m with q | q
          · exact absurd (h3.2 (H1.out h _ q hy)) e
          · exact q)
      have C1 := Lib.hid c1
      clear hc hy h3 her c1
      have F0 := fun q os => z_grow_cell (w := wr) q os g0; have F1 := fun q os => z_grow_cell (w := wr) q os g1; have F2 := fun q os => z_grow_cell (w := wr) q os g2
      by_cases hneg : er < 0
      · have hlt' := HY1.out hneg
        go_wp2_with fail
        refine (C1.out _).mono ?_
        rintro e w4 ⟨rfl, q4, o4, h4⟩
        have b4 : Below wr.heap.size wr w4 := by rw [h4]; exact z_below_grows _ _ _
        have B4 := Lib.hid (BW.out.trans (b4.mono BW.out.size))
        clear h4 b4
        go_wp2
        go_roundg (hi - (h + 1))
        case measure => omega
        case rel => exact ⟨h + 1, hi, by go_num, rfl, by omega, hhi, hin, Nat.le_refl _, B4⟩
      · have hge := HY2.out hneg
        go_wp2_with fail
        refine (C1.out _).mono ?_
        rintro e w4 ⟨rfl, q4, o4, h4⟩
        have b4 : Below wr.heap.size wr w4 := by rw [h4]; exact z_below_grows _ _ _
        have B4 := Lib.hid (BW.out.trans (b4.mono BW.out.size))
        clear h4 b4
        go_wp2
        go_roundg (h - lo)
        case measure => omega
        case rel => exact ⟨lo, h, rfl, rfl, hlo, hge, by omega, Nat.le_refl _, B4⟩
    · obtain rfl : lo = m := by omega
      obtain rfl : hi = lo := by omega
      by_cases hmn : hi < n
      · have i1 : (hi : Int) < (n : Int) := by omega
        obtain ⟨⟨y1, y2, y3⟩, hy⟩ : ∃ y, l[hi]? = some y := ⟨_, List.getElem?_eq_getElem (by rw [HN.out]; exact hmn)⟩
        obtain ⟨b, o, rfl, hblt, hc⟩ := (HU.out.below BW.out).cells HN.out (by omega)
        have g0 := hc hi _ hy 0 _ rfl
        have g1 := hc hi _ hy 1 _ rfl
        have g2 := hc hi _ hy 2 _ rfl
        simp only [Nat.add_zero] at g0 g1 g2
        have c1 := fun w => C.out y1 y2 y3 t w
        have h3 := cmpI_zero (keyR (y1, y2, y3)) t
        obtain ⟨er, her⟩ : ∃ z, cmpI (keyR (y1, y2, y3)) t = z := ⟨_, rfl⟩
        simp only [her] at c1
        rw [her] at h3
        have hr : Hid (res = (er == 0)) := Lib.hid (by
          rw [← HR.out]
          unfold eAt
          rw [hy]
          simp only
          by_cases e : er = 0
          · rw [decide_eq_true (h3.1 e), e]; rfl
          · rw [decide_eq_false (fun q => e (h3.2 q))]; simp [e])
        have C1 := Lib.hid c1
        clear hc hy h3 her c1
        go_wp2_with fail
        refine (C1.out _).mono ?_
        rintro e w4 ⟨rfl, q4, o4, h4⟩
        have b4 : Below wr.heap.size wr w4 := by rw [h4]; exact z_below_grows _ _ _
        have B4 := Lib.hid (BW.out.trans (b4.mono BW.out.size))
        clear h4 b4
        go_wp2
        go_ret2
        exact ⟨by rw [hr.out]; rfl, B4.out⟩
      · obtain rfl : hi = n := by omega
        have hr : Hid (res = false) := Lib.hid (by
          rw [← HR.out]
          unfold eAt
          rw [List.getElem?_eq_none (by rw [HN.out]; exact Nat.le_refl _)])
        have i1 : ¬ (hi : Int) < (hi : Int) := by omega
        go_wp2
        go_ret2
        exact ⟨by rw [hr.out]; rfl, BW.out⟩

def keyA (e : Edg) : Int := (e.2.2 : Int)
set_option maxRecDepth 100000 in
set_option maxHeartbeats 4000000 in
theorem clsA_lays (a : Int) (b c : Nat) (t : Int) (w : World) :
    Calls Tryd.prog 100 #[.agg #[.int .i32 a, .int .i32 (b : Int), .int .i32 (c : Int)], .int .i32 t] w fun e w' => e = .returned (.int .i64 (cmpI (keyA (a, b, c)) t)) ∧ ∃ q os, w' = grow (w.drewN q) os := by
  show Calls Tryd.prog _ _ w fun e w' => e = .returned (.int .i64 (cmpI (c : Int) t)) ∧ _
  have c1 := fun w => cmp32_any (c : Int) t w
  obtain ⟨r, hr⟩ : ∃ r, cmpI (c : Int) t = r := ⟨_, rfl⟩
  rw [hr] at c1 ⊢
  have C1 := Lib.hid c1
  clear c1 hr
  have h1 : Hid (∀ o : Obj, ∃ q os, w.alloc o = grow (w.drewN q) os) := Lib.hid (fun o => ⟨0, _, by rw [alloc_eq_grow]; rfl⟩)
  go_enter Tryd.func100, Tryd.ntmps100
  go_wp2_with fail
  refine (C1.out _).mono ?_
  rintro e w1 ⟨rfl, rfl⟩
  go_wp2
  go_ret
  exact ⟨rfl, h1.out _⟩

set_option maxRecDepth 100000 in
set_option maxHeartbeats 8000000 in
theorem ebsA_any (A : Option Addr) (n c : Nat) (l : List Edg) (t : Int) (w : World) (hn : l.length = n) (hu : GRuns edCell 3 w (.slice A n c) l) (hl : n ≤ 6000000) (m : Nat) (hm : m ≤ n)
    (h1 : ∀ j y, j < m → l[j]? = some y → keyA y < t) (h2 : ∀ j y, m ≤ j → l[j]? = some y → ¬ keyA y < t) :
    Calls Tryd.prog 64 #[.slice A n c, .int .i32 t, .func (.func 100) #[] #[]] w fun e w' =>
      e = .returned (.tuple #[.int .i64 (m : Nat), .bool (eAt keyA l m t)]) ∧ Below w.heap.size w w' := by
  have C := Lib.hid clsA_lays
  obtain ⟨res, hres⟩ : ∃ z, eAt keyA l m t = z := ⟨_, rfl⟩
  rw [hres]
  have HR := Lib.hid hres; clear hres
  have HU := Lib.hid hu
  have H1 := Lib.hid h1; have H2 := Lib.hid h2; have HN := Lib.hid hn
  clear h1 h2 hn hu
  go_enter Tryd.func64, Tryd.ntmps64
  have hmix : Tryd.prog.follows .mixedOrders = true := by kernel_rfl
  have eg : ∀ args w, (callFunc 100 args).run Tryd.prog w = .ok (.enter 100 args) w := enters_of Tryd.func100 (by kernel_rfl) rfl
  have HEG := Lib.hid eg; clear eg
  go_wp2
  go_loopg [9, 10] n (fun kx s9 s10 wr => ∃ lo hi : Nat, s9 = .int .i64 lo ∧ s10 = .int .i64 hi ∧ lo ≤ m ∧ m ≤ hi ∧ hi ≤ n ∧ hi - lo ≤ kx ∧ Hid (Below w.heap.size w wr))
  case atStart => exact ⟨0, n, rfl, rfl, Nat.zero_le _, hm, Nat.le_refl _, by omega, Lib.hid (Below.refl _ _)⟩
  case round =>
    obtain ⟨lo, hi, rfl, rfl, hlo, hhi, hin, hg, BW⟩ := hrel
    by_cases hlh : lo < hi
    · obtain ⟨h, hh⟩ : ∃ h, (lo + hi) / 2 = h := ⟨_, rfl⟩
      have hz : ((lo : Int) + (hi : Int)) / 2 = (h : Int) := by omega
      have hn1 : h < n := by omega
      have i1 : (h : Int) < (n : Int) := by omega
      obtain ⟨⟨y1, y2, y3⟩, hy⟩ : ∃ y, l[h]? = some y := ⟨_, List.getElem?_eq_getElem (by rw [HN.out]; exact hn1)⟩
      obtain ⟨b, o, rfl, hblt, hc⟩ := (HU.out.below BW.out).cells HN.out (by omega)
      have g0 := hc h _ hy 0 _ rfl
      have g1 := hc h _ hy 1 _ rfl
      have g2 := hc h _ hy 2 _ rfl
      simp only [Nat.add_zero] at g0 g1 g2
      have c1 := fun w => C.out y1 y2 y3 t w
      have h3 := cmpI_neg (keyA (y1, y2, y3)) t
      obtain ⟨er, her⟩ : ∃ z, cmpI (keyA (y1, y2, y3)) t = z := ⟨_, rfl⟩
      simp only [her] at c1
      rw [her] at h3
      have HY1 : Hid (er < 0 → h < m) := Lib.hid (fun e => by
          rcases Nat.lt_or_ge h m with q | q
          · exact q
          · exact absurd (h3.1 e) (by have := H2.out h _ q hy; omega))
      have HY2 : Hid (¬ er < 0 → m ≤ h) := Lib.hid (fun e => by
          rcases Nat.lt_or_ge h m with q | q
          · exact absurd (h3.2 (H1.out h _ q hy)) e
          · exact q)
      have C1 := Lib.hid c1
      clear hc hy h3 her c1
      have F0 := fun q os => z_grow_cell (w := wr) q os g0; have F1 := fun q os => z_grow_cell (w := wr) q os g1; have F2 := fun q os => z_grow_cell (w := wr) q os g2
      by_cases hneg : er < 0
      · have hlt' := HY1.out hneg
        go_wp2_with fail
        refine (C1.out _).mono ?_
        rintro e w4 ⟨rfl, q4, o4, h4⟩
        have b4 : Below wr.heap.size wr w4 := by rw [h4]; exact z_below_grows _ _ _
        have B4 := Lib.hid (BW.out.trans (b4.mono BW.out.size))
        clear h4 b4
        go_wp2
        go_roundg (hi - (h + 1))
        case measure => omega
        case rel => exact ⟨h + 1, hi, by go_num, rfl, by omega, hhi, hin, Nat.le_refl _, B4⟩
      · have hge := HY2.out hneg
        go_wp2_with fail
        refine (C1.out _).mono ?_
        rintro e w4 ⟨rfl, q4, o4, h4⟩
        have b4 : Below wr.heap.size wr w4 := by rw [h4]; exact z_below_grows _ _ _
        have B4 := Lib.hid (BW.out.trans (b4.mono BW.out.size))
        clear h4 b4
        go_wp2
        go_roundg (h - lo)
        case measure => omega
        case rel => exact ⟨lo, h, rfl, rfl, hlo, hge, by omega, Nat.le_refl _, B4⟩
    · obtain rfl : lo = m := by omega
      obtain rfl : hi = lo := by omega
      by_cases hmn : hi < n
      · have i1 : (hi : Int) < (n : Int) := by omega
        obtain ⟨⟨y1, y2, y3⟩, hy⟩ : ∃ y, l[hi]? = some y := ⟨_, List.getElem?_eq_getElem (by rw [HN.out]; exact hmn)⟩
        obtain ⟨b, o, rfl, hblt, hc⟩ := (HU.out.below BW.out).cells HN.out (by omega)
        have g0 := hc hi _ hy 0 _ rfl
        have g1 := hc hi _ hy 1 _ rfl
        have g2 := hc hi _ hy 2 _ rfl
        simp only [Nat.add_zero] at g0 g1 g2
        have c1 := fun w => C.out y1 y2 y3 t w
        have h3 := cmpI_zero (keyA (y1, y2, y3)) t
        obtain ⟨er, her⟩ : ∃ z, cmpI (keyA (y1, y2, y3)) t = z := ⟨_, rfl⟩
        simp only [her] at c1
        rw [her] at h3
        have hr : Hid (res = (er == 0)) := Lib.hid (by
          rw [← HR.out]
          unfold eAt
          rw [hy]
          simp only
          by_cases e : er = 0
          · rw [decide_eq_true (h3.1 e), e]; rfl
          · rw [decide_eq_false (fun q => e (h3.2 q))]; simp [e])
        have C1 := Lib.hid c1
        clear hc hy h3 her c1
        go_wp2_with fail
        refine (C1.out _).mono ?_
        rintro e w4 ⟨rfl, q4, o4, h4⟩
        have b4 : Below wr.heap.size wr w4 := by rw [h4]; exact z_below_grows _ _ _
        have B4 := Lib.hid (BW.out.trans (b4.mono BW.out.size))
        clear h4 b4
        go_wp2
        go_ret2
        exact ⟨by rw [hr.out]; rfl, B4.out⟩
      · obtain rfl : hi = n := by omega
        have hr : Hid (res = false) := Lib.hid (by
          rw [← HR.out]
          unfold eAt
          rw [List.getElem?_eq_none (by rw [HN.out]; exact Nat.le_refl _)])
        have i1 : ¬ (hi : Int) < (hi : Int) := by omega
        go_wp2
        go_ret2
        exact ⟨by rw [hr.out]; rfl, BW.out⟩
end Go.Proofs.YtnjhbblhlgpgdaaDoor

/- Dawg.by, last, check, Next, Ends: what they answer. -/
namespace Go.Proofs.YtnjhbblhlgpgdaaDoor
open Go.RowKit Go.Shelf Go.Lib
attribute [local go_sem] Oper.semAt_some
set_option linter.unusedSimpArgs false
set_option linter.unusedVariables false

/-- A block of cells. -/
def Bx (w : World) (B : Nat) (t : TypeId) (cs : Array Value) : Prop := w.heap[B]? = some (.cells cs t)
theorem Bx.below {w w' : World} {B : Nat} {t : TypeId} {cs : Array Value} (h : Bx w B t cs) (hb : Below w.heap.size w w') : Bx w' B t cs := (hb.block B (Array.getElem?_eq_some_iff.1 h).1).trans h
theorem Bx.cell {w : World} {B : Nat} {t : TypeId} {cs : Array Value} (h : Bx w B t cs) {j : Nat} {v : Value} (hj : cs[j]? = some v) : w.cell? ⟨B, j, none⟩ = some v := by rw [cell_of_row _ _ _ _ _ (0, 0) h]; exact hj
theorem Bx.thaw {w : World} {B : Nat} {t : TypeId} {cs : Array Value} (h : Bx w B t cs) (j : Nat) : w.frozen? ⟨B, j, none⟩ = false := by
  unfold Bx at h
  simp [World.frozen?, h]
theorem Bx.lt {w : World} {B : Nat} {t : TypeId} {cs : Array Value} (h : Bx w B t cs) : B < w.heap.size := (Array.getElem?_eq_some_iff.1 h).1
theorem Bx.three {w : World} {B : Nat} {t : TypeId} {a b c : Value} (h : Bx w B t #[a, b, c]) : w.cell? ⟨B, 0, none⟩ = some a ∧ w.cell? ⟨B, 1, none⟩ = some b ∧ w.cell? ⟨B, 2, none⟩ = some c := ⟨h.cell rfl, h.cell rfl, h.cell rfl⟩
theorem Bx.two {w : World} {B : Nat} {t : TypeId} {a b : Value} (h : Bx w B t #[a, b]) : w.cell? ⟨B, 0, none⟩ = some a ∧ w.cell? ⟨B, 1, none⟩ = some b := ⟨h.cell rfl, h.cell rfl⟩
theorem bx_new (w : World) (t : TypeId) (cs : Array Value) : Bx (w.alloc (.cells cs t)) w.heap.size t cs := heap_alloc_new w _
theorem bel_set {n : Nat} {w w' : World} (h : Below n w w') (hn : n ≤ w'.heap.size) (B j : Nat) (v : Value) (hB : n ≤ B) : Below n w (w'.setCell ⟨B, j, none⟩ v) :=
  h.grown (z_grown_set w' B j v) hn (fun k e => by cases e; exact hB)

theorem Bx.set3 {w : World} {B : Nat} {t : TypeId} {a b c : Value} (h : Bx w B t #[a, b, c]) (x y z : Value) : Bx (((w.setCell ⟨B, 0, none⟩ x).setCell ⟨B, 1, none⟩ y).setCell ⟨B, 2, none⟩ z) B t #[x, y, z] := z_set_cells (z_set_cells (z_set_cells h 0 x) 1 y) 2 z
theorem bel_set3 {n : Nat} {w w' : World} (h : Below n w w') (hn : n ≤ w'.heap.size) (B : Nat) (x y z : Value) (hB : n ≤ B) : Below n w (((w'.setCell ⟨B, 0, none⟩ x).setCell ⟨B, 1, none⟩ y).setCell ⟨B, 2, none⟩ z) :=
  bel_set (bel_set (bel_set h hn B 0 x hB) (by simpa using hn) B 1 y hB) (by simpa using hn) B 2 z hB
/-- The edge that leads on by a rune, or nothing. -/
def byE (Q : List Rst) (x : Rst) (r : Int) : Edg := if r ∈ hdsR x then (r, Q.idxOf (behR x r), ahdR x r) else (0, 0, 0)
theorem byP (Q : List Rst) {x : Rst} (hx : x.Pairwise (· < ·)) (r : Int) : posI (hdsR x) r ≤ (edE Q x).length ∧ (∀ j y, j < posI (hdsR x) r → (edE Q x)[j]? = some y → keyR y < r) ∧ (∀ j y, posI (hdsR x) r ≤ j → (edE Q x)[j]? = some y → ¬ keyR y < r) ∧
    eAt keyR (edE Q x) (posI (hdsR x) r) r = decide (r ∈ hdsR x) ∧ (r ∈ hdsR x → (edE Q x)[posI (hdsR x) r]? = some (byE Q x r)) := by
  have hr := hdsR_rising hx
  obtain ⟨h1, h2⟩ := posI_spec hr r
  have h3 := posI_at hr r
  refine ⟨by rw [edE_len]; exact posI_le _ _, fun j y hj hy => ?_, fun j y hj hy => ?_, ?_, fun hm => ?_⟩
  · rw [edE_key] at hy
    obtain ⟨a, ha, rfl⟩ := Option.map_eq_some_iff.1 hy
    exact h1 j a hj ha
  · rw [edE_key] at hy
    obtain ⟨a, ha, rfl⟩ := Option.map_eq_some_iff.1 hy
    have := h2 j a hj ha
    show ¬ a < r
    omega
  · unfold eAt
    rw [edE_key]
    cases hp : (hdsR x)[posI (hdsR x) r]? with
    | none =>
      rw [hp] at h3
      have : ¬ r ∈ hdsR x := fun e => by have := h3.1 e; cases this
      simp [this]
    | some a =>
      rw [hp] at h3
      show decide (a = r) = _
      by_cases e : a = r
      · rw [decide_eq_true e, decide_eq_true (h3.2 (by rw [e]))]
      · rw [decide_eq_false e, decide_eq_false (fun k => e (Option.some.inj (h3.1 k)))]
  · rw [edE_key, h3.1 hm]
    unfold byE
    rw [if_pos hm]
    rfl

set_option maxRecDepth 100000 in
set_option maxHeartbeats 4000000 in
theorem by_any (w : World) (d : Nat) (Q : List Rst) (L : List Wrd) (h : DgAt w d Q L) (hk : DgOk Q L) (i : Nat) (x : Rst) (hx : Q[i]? = some x) (hxr : x.Pairwise (· < ·)) (r : Int) :
    Calls Tryd.prog 43 #[.pointer (some ⟨d, 0, none⟩), .agg (stCell (staL Q i)).toArray, .int .i32 r] w fun e w' => e = .returned (.tuple #[.agg (edCell (byE Q x r)).toArray, .bool (decide (r ∈ hdsR x))]) ∧ Below w.heap.size w w' := by
  have CO := Lib.hid (fun w' (hb : Below w.heap.size w w') => out_any w' d Q L (h.below hb) hk i x hx)
  obtain ⟨⟨s1, s2, s3⟩, hst⟩ : ∃ z, staL Q i = z := ⟨_, rfl⟩
  rw [hst] at CO ⊢
  simp only [stCell] at CO ⊢
  show Calls Tryd.prog _ _ w fun e w' => e = .returned (.tuple #[.agg #[.int .i32 (byE Q x r).1, .int .i32 ((byE Q x r).2.1 : Int), .int .i32 ((byE Q x r).2.2 : Int)], _]) ∧ _
  obtain ⟨p1, p2, p3, p4, p5⟩ := byP Q hxr r
  have hem : (edE Q x).length ≤ 6000000 := by
    have h1 := edK_succ hx
    have h2 := (edK_le (Q := Q) (List.getElem?_eq_some_iff.1 hx).1).2
    rw [h1, List.length_append] at h2
    have := hk.em
    omega
  obtain ⟨m, hm⟩ : ∃ z, posI (hdsR x) r = z := ⟨_, rfl⟩
  rw [hm] at p1 p2 p3 p4 p5
  have hbz : ¬ r ∈ hdsR x → byE Q x r = (0, 0, 0) := fun e => by unfold byE; rw [if_neg e]
  obtain ⟨⟨b1, b2, b3⟩, hbe⟩ : ∃ z, byE Q x r = z := ⟨_, rfl⟩
  rw [hbe] at p5 hbz ⊢
  have CB := Lib.hid (fun w' A c (hu : GRuns edCell 3 w' (.slice A (edE Q x).length c) (edE Q x)) => ebsR_any A (edE Q x).length c (edE Q x) r w' rfl hu hem m p1 p2 p3)
  rw [p4] at CB
  obtain ⟨fd, hfd⟩ : ∃ z, decide (r ∈ hdsR x) = z := ⟨_, rfl⟩
  rw [hfd] at CB ⊢
  have hfd1 : fd = true → (edE Q x)[m]? = some (b1, b2, b3) := fun e => p5 (of_decide_eq_true (hfd.trans e))
  have hfd0 : fd = false → (b1, b2, b3) = ((0, 0, 0) : Edg) := fun e => hbz (of_decide_eq_false (hfd.trans e))
  obtain ⟨E, hE⟩ : ∃ z, edE Q x = z := ⟨_, rfl⟩
  obtain ⟨n, hn⟩ : ∃ z, E.length = z := ⟨_, rfl⟩
  rw [hE] at CO CB p1 hfd1
  rw [hn] at CB p1
  have HF1 := Lib.hid hfd1; have HF0 := Lib.hid hfd0; have HN := Lib.hid hn
  have HB0 : Hid (∀ o o' : Obj, Below w.heap.size w ((w.alloc o).alloc o')) := Lib.hid (fun o o' => bel_two w o o')
  have HX0 : Hid (∀ o : Obj, Bx ((w.alloc o).alloc (.cells #[.int .i32 0, .int .i32 0, .int .i32 0] 91)) (w.heap.size + 1) 91 #[.int .i32 0, .int .i32 0, .int .i32 0]) := Lib.hid (fun o => by
    have := bx_new (w.alloc o) 91 #[.int .i32 0, .int .i32 0, .int .i32 0]
    rwa [World.size_alloc] at this)
  clear h hk hx hxr p2 p3 p4 p5 hem hm hbz hbe hfd hfd1 hfd0 hE hn
  go_enter Tryd.func43, Tryd.ntmps43
  go_wp2_with fail
  refine (CO.out _ (HB0.out _ _)).mono ?_
  rintro e w1 ⟨v, rfl, hg1, bb1⟩
  have bx1 := (HX0.out _).below bb1
  have bl1 := (HB0.out _ _).trans (bb1.mono (HB0.out _ _).size)
  have hs1 : w.heap.size + 2 ≤ w1.heap.size := by have := bb1.size; simpa using this
  obtain ⟨A, c, ev⟩ := hg1.slice
  rw [HN.out] at ev
  subst ev
  have HG1 := Lib.hid hg1; have BX1 := Lib.hid bx1; have BL1 := Lib.hid bl1
  clear bb1 hg1 bx1 bl1 CO HB0 HX0
  go_wp2_with fail
  refine (CB.out _ _ _ HG1.out).mono ?_
  rintro e w2 ⟨rfl, bb2⟩
  have bx2 := BX1.out.below bb2
  have bl2 := BL1.out.trans (bb2.mono BL1.out.size)
  have HG2 := Lib.hid (HG1.out.below bb2)
  have hs2 : w.heap.size + 2 ≤ w2.heap.size := by have := bb2.size; omega
  obtain ⟨k0, k1, k2⟩ := bx2.three
  have f0 := bx2.thaw 0; have f1 := bx2.thaw 1; have f2 := bx2.thaw 2
  have BX2 := Lib.hid bx2; have BL2 := Lib.hid bl2
  clear bb2 bx2 bl2 CB HG1 BX1 BL1 hs1
  cases fd
  · have e0 := HF0.out rfl
    simp only [Prod.mk.injEq] at e0
    obtain ⟨rfl, rfl, rfl⟩ := e0
    have z3 := BX2.out.set3 (.int .i32 0) (.int .i32 0) (.int .i32 0)
    have l3 := bel_set3 BL2.out (by omega) (w.heap.size + 1) (.int .i32 0) (.int .i32 0) (.int .i32 0) (by omega)
    have Z3 := Lib.hid z3; have L3 := Lib.hid l3
    clear z3 l3
    go_wp2
    obtain ⟨q0, q1, q2⟩ := Z3.out.three
    refine bodyPost_ret (v := .tuple #[.agg #[.int .i32 0, .int .i32 0, .int .i32 0], .bool false]) ?_ rfl ⟨rfl, L3.out⟩
    simp [results, Tryd.f43, go_sem, q0, q1, q2]
  · have hp := HF1.out rfl
    have hmn : m < n := by have := (List.getElem?_eq_some_iff.1 hp).1; rwa [HN.out] at this
    obtain ⟨b, o, rfl, hlt, hc⟩ := HG2.out.cells HN.out (by omega)
    have g0 := hc m _ hp 0 _ rfl
    have g1 := hc m _ hp 1 _ rfl
    have g2 := hc m _ hp 2 _ rfl
    simp only [Nat.add_zero] at g0 g1 g2
    have i1 : (m : Int) < (n : Int) := by omega
    have z3 := BX2.out.set3 (.int .i32 b1) (.int .i32 (b2 : Int)) (.int .i32 (b3 : Int))
    have l3 := bel_set3 BL2.out (by omega) (w.heap.size + 1) (.int .i32 b1) (.int .i32 (b2 : Int)) (.int .i32 (b3 : Int)) (by omega)
    have Z3 := Lib.hid z3; have L3 := Lib.hid l3
    clear z3 l3 hc hp
    go_wp2
    obtain ⟨q0, q1, q2⟩ := Z3.out.three
    refine bodyPost_ret (v := .tuple #[.agg #[.int .i32 b1, .int .i32 (b2 : Int), .int .i32 (b3 : Int)], .bool true]) ?_ rfl ⟨rfl, L3.out⟩
    simp [results, Tryd.f43, go_sem, q0, q1, q2]
/-- Why there is no such state. -/
def chkD (Q : List Rst) (a : Int) : Int := if a < 0 ∨ (Q.length : Int) ≤ a then 2 else 0
theorem check_nil (a : Int) (w : World) : Calls Tryd.prog 40 #[.pointer none, .int .i64 a] w fun e w' => e = .returned (.int .i64 1) ∧ w' = w := by
  go_enter Tryd.func40, Tryd.ntmps40
  go_wp2
  go_ret
  exact ⟨rfl, rfl⟩
set_option maxRecDepth 100000 in
theorem check_any (w : World) (d : Nat) (Q : List Rst) (L : List Wrd) (h : DgAt w d Q L) (hk : DgOk Q L) (a : Int) : Calls Tryd.prog 40 #[.pointer (some ⟨d, 0, none⟩), .int .i64 a] w fun e w' => e = .returned (.int .i64 (chkD Q a)) ∧ w' = w := by
  have c1 := states_any w d Q L h hk
  unfold chkD
  obtain ⟨n, hn⟩ : ∃ z, Q.length = z := ⟨_, rfl⟩
  rw [hn] at c1 ⊢
  have C1 := Lib.hid c1
  clear c1 h hk hn
  by_cases h1 : a < 0
  · rw [if_pos (.inl h1)]
    go_enter Tryd.func40, Tryd.ntmps40
    go_wp2
    go_ret
    exact ⟨rfl, rfl⟩
  · by_cases h2 : (n : Int) ≤ a
    · rw [if_pos (.inr h2)]
      go_enter Tryd.func40, Tryd.ntmps40
      go_wp2_with fail
      refine C1.out.mono ?_
      rintro e w1 ⟨rfl, e1⟩
      obtain rfl := e1.symm
      go_wp2
      go_ret
      exact ⟨rfl, rfl⟩
    · rw [if_neg (by omega)]
      go_enter Tryd.func40, Tryd.ntmps40
      go_wp2_with fail
      refine C1.out.mono ?_
      rintro e w1 ⟨rfl, e1⟩
      obtain rfl := e1.symm
      go_wp2
      go_ret
      exact ⟨rfl, rfl⟩
theorem staL_at {Q : List Rst} {i : Nat} {x : Rst} (hx : Q[i]? = some x) : (staL Q i).2.2 = decide ([] ∈ x) := by
  unfold staL
  rw [List.getD_eq_getElem?_getD, hx]; rfl
set_option maxRecDepth 100000 in
/-- What is asked of no state. -/
theorem ends_out (w : World) (d : Nat) (Q : List Rst) (L : List Wrd) (h : DgAt w d Q L) (hk : DgOk Q L) (a : Int) (ha : chkD Q a = 2) : Calls Tryd.prog 20 #[.pointer (some ⟨d, 0, none⟩), .int .i64 a] w fun e w' => e = .returned (.tuple #[.bool false, .int .i64 2]) ∧ w' = w := by
  have c1 := check_any w d Q L h hk a
  rw [ha] at c1
  have C1 := Lib.hid c1
  clear c1 h hk ha
  go_enter Tryd.func20, Tryd.ntmps20
  go_wp2_with fail
  refine C1.out.mono ?_
  rintro e w1 ⟨rfl, e1⟩
  obtain rfl := e1.symm
  go_wp2
  go_ret2
  exact ⟨rfl, rfl⟩
theorem run_ends (a b : Int) (c : Bool) (w : World) : (Instr.field 88 (.agg #[.int .i32 a, .int .i32 b, .bool c]) 2).run Tryd.prog w = .ok (.bool c) w := by kernel_rfl
set_option maxRecDepth 100000 in
theorem ends_in (w : World) (d : Nat) (Q : List Rst) (L : List Wrd) (h : DgAt w d Q L) (hk : DgOk Q L) (i : Nat) (x : Rst) (hx : Q[i]? = some x) : Calls Tryd.prog 20 #[.pointer (some ⟨d, 0, none⟩), .int .i64 (i : Int)] w fun e w' => e = .returned (.tuple #[.bool (decide ([] ∈ x)), .int .i64 0]) ∧ Below w.heap.size w w' := by
  have hi := (List.getElem?_eq_some_iff.1 hx).1
  have c1 := check_any w d Q L h hk (i : Int)
  have hc : chkD Q (i : Int) = 0 := by unfold chkD; rw [if_neg (by omega)]
  rw [hc] at c1
  have c2 := state_any w d Q L h i hi
  have he := staL_at hx
  obtain ⟨⟨s1, s2, s3⟩, hst⟩ : ∃ z, staL Q i = z := ⟨_, rfl⟩
  rw [hst] at c2 he
  simp only [stCell] at c2 he
  rw [← he]
  have C1 := Lib.hid c1; have C2 := Lib.hid c2
  clear c1 c2 h hk he hst hx hi hc
  go_enter Tryd.func20, Tryd.ntmps20
  go_wp2_with fail
  refine C1.out.mono ?_
  rintro e w1 ⟨rfl, e1⟩
  obtain rfl := e1.symm
  go_wp2_with fail
  refine C2.out.mono ?_
  rintro e w2 ⟨rfl, b2⟩
  have B2 := Lib.hid b2; clear b2
  have hf := run_ends (s1 : Int) (s2 : Int) s3 w2
  go_wp2
  go_ret2
  exact ⟨rfl, B2.out⟩
theorem next_nil (a : Int) (r : Int) (w : World) : Calls Tryd.prog 23 #[.pointer none, .int .i64 a, .int .i32 r] w fun e w' => e = .returned (.tuple #[.int .i64 0, .int .i64 1]) ∧ w' = w := by
  have C1 := Lib.hid (check_nil a w)
  go_enter Tryd.func23, Tryd.ntmps23
  go_wp2_with fail
  refine C1.out.mono ?_
  rintro e w1 ⟨rfl, e1⟩
  obtain rfl := e1.symm
  go_wp2
  go_ret2
  exact ⟨rfl, rfl⟩
set_option maxRecDepth 100000 in
theorem next_out (w : World) (d : Nat) (Q : List Rst) (L : List Wrd) (h : DgAt w d Q L) (hk : DgOk Q L) (a : Int) (ha : chkD Q a = 2) (r : Int) : Calls Tryd.prog 23 #[.pointer (some ⟨d, 0, none⟩), .int .i64 a, .int .i32 r] w fun e w' => e = .returned (.tuple #[.int .i64 0, .int .i64 2]) ∧ w' = w := by
  have c1 := check_any w d Q L h hk a
  rw [ha] at c1
  have C1 := Lib.hid c1
  clear c1 h hk ha
  go_enter Tryd.func23, Tryd.ntmps23
  go_wp2_with fail
  refine C1.out.mono ?_
  rintro e w1 ⟨rfl, e1⟩
  obtain rfl := e1.symm
  go_wp2
  go_ret2
  exact ⟨rfl, rfl⟩
set_option maxRecDepth 100000 in
set_option maxHeartbeats 4000000 in
theorem next_in (w : World) (d : Nat) (Q : List Rst) (L : List Wrd) (h : DgAt w d Q L) (hk : DgOk Q L) (i : Nat) (x : Rst) (hx : Q[i]? = some x) (hxr : x.Pairwise (· < ·)) (r : Int) : Calls Tryd.prog 23 #[.pointer (some ⟨d, 0, none⟩), .int .i64 (i : Int), .int .i32 r] w fun e w' => e = .returned (.tuple #[.int .i64 ((byE Q x r).2.1 : Int), .int .i64 (if r ∈ hdsR x then 0 else 10)]) ∧ Below w.heap.size w w' := by
  have hi := (List.getElem?_eq_some_iff.1 hx).1
  have c1 := check_any w d Q L h hk (i : Int)
  have hc : chkD Q (i : Int) = 0 := by unfold chkD; rw [if_neg (by omega)]
  rw [hc] at c1
  have c2 := state_any w d Q L h i hi
  have c3 := fun w' (hb : Below w.heap.size w w') => by_any w' d Q L (h.below hb) hk i x hx hxr r
  have hz : ¬ r ∈ hdsR x → (byE Q x r).2.1 = 0 := fun e => by unfold byE; rw [if_neg e]
  have hb2 : (byE Q x r).2.1 ≤ 6000000 := by
    have := hk.qm
    unfold byE
    split
    · exact Nat.le_trans List.idxOf_le_length (by omega)
    · exact Nat.zero_le _
  obtain ⟨⟨s1, s2, s3⟩, hst⟩ : ∃ z, staL Q i = z := ⟨_, rfl⟩
  obtain ⟨⟨b1, b2, b3⟩, hbe⟩ : ∃ z, byE Q x r = z := ⟨_, rfl⟩
  rw [hst] at c2 c3
  rw [hbe] at c3 hz hb2 ⊢
  simp only [stCell, edCell] at c2 c3 hz hb2 ⊢
  have wk : wrap64 (b2 : Int) = (b2 : Int) := by unfold wrap64; omega
  obtain ⟨er, her⟩ : ∃ z, (if r ∈ hdsR x then (0 : Int) else 10) = z := ⟨_, rfl⟩
  obtain ⟨fd, hfd⟩ : ∃ z, decide (r ∈ hdsR x) = z := ⟨_, rfl⟩
  rw [hfd] at c3
  rw [her]
  have HZ : Hid (fd = false → b2 = 0 ∧ er = 10) := Lib.hid (fun e => ⟨hz (of_decide_eq_false (hfd.trans e)), by rw [← her, if_neg (of_decide_eq_false (hfd.trans e))]⟩)
  have HP : Hid (fd = true → er = 0) := Lib.hid (fun e => by rw [← her, if_pos (of_decide_eq_true (hfd.trans e))])
  have C1 := Lib.hid c1; have C2 := Lib.hid c2; have C3 := Lib.hid c3
  clear c1 c2 c3 h hk hst hx hi hc hz hbe her hfd hxr
  go_enter Tryd.func23, Tryd.ntmps23
  go_wp2_with fail
  refine C1.out.mono ?_
  rintro e w1 ⟨rfl, e1⟩
  obtain rfl := e1.symm
  go_wp2_with fail
  refine C2.out.mono ?_
  rintro e w2 ⟨rfl, b2'⟩
  have c3 := C3.out w2 b2'
  have C4 := Lib.hid c3; have B2 := Lib.hid b2'; clear b2' c3 C3
  go_wp2_with fail
  refine C4.out.mono ?_
  rintro e w3 ⟨rfl, b3'⟩
  have bl3 := B2.out.trans (b3'.mono B2.out.size)
  have HB3 : Hid (∀ o, Below w.heap.size w (w3.alloc o)) := Lib.hid (fun o => bl3.alloc bl3.size _)
  clear b3' bl3 C4
  cases fd
  · obtain ⟨rfl, e2⟩ := HZ.out rfl
    go_wp2
    go_ret2
    exact ⟨by rw [e2]; rfl, HB3.out _⟩
  · have e2 := HP.out rfl
    go_wp2
    go_ret2
    exact ⟨by rw [e2]; rfl, HB3.out _⟩
end Go.Proofs.YtnjhbblhlgpgdaaDoor

