/- Texts that several proofs of this seat share, one behind the other: MPlain MAuto MTree Base MMap GenRow. -/
import Derived.WalkKit
import Derived.ProofKit
import Derived.Below
import Derived.Deep.QuietTactic
import Derived.BigQuiet
import Derived.Deep.LoopGhost
import Derived.Deep.Draws
import Derived.Lib.Hide
import Derived.WalkLawsBesides
import Derived.WalkSpells
import Derived.Test.YtbbkkoeipkigdaaDoorProg
import Derived.DeepKeys4
import Derived.Maps.OwnSet
import Derived.OwnWalk
import Derived.Maps.AppendAt
/- Hits, plain: where rows stand in a row; what follows for parts of it, for places, for one row alone. -/
namespace Go.Proofs.YtbbkkoeipkigdaaDoor

/-- The rows that stand at a place, rising. -/
def atP (F : List (List Int)) (l : List Int) (at_ : Nat) : List Nat := (List.range F.length).filter (fun i => (F.getD i []).isPrefixOf (l.drop at_))
/-- All hits, by their places, then by the rows'. -/
def hitsP (F : List (List Int)) (l : List Int) : List (Nat × Nat) := (List.range (l.length + 1)).flatMap (fun at_ => (atP F l at_).map (fun i => (at_, i)))
theorem mem_atP {F : List (List Int)} {l : List Int} {at_ i : Nat} : i ∈ atP F l at_ ↔ i < F.length ∧ F.getD i [] <+: l.drop at_ := by
  simp [atP, List.mem_filter]
theorem mem_hitsP {F : List (List Int)} {l : List Int} {at_ i : Nat} : (at_, i) ∈ hitsP F l ↔ at_ ≤ l.length ∧ i < F.length ∧ F.getD i [] <+: l.drop at_ := by
  unfold hitsP
  rw [List.mem_flatMap]
  constructor
  · rintro ⟨a, ha, hm⟩
    obtain ⟨j, hj, e⟩ := List.mem_map.1 hm
    simp only [Prod.mk.injEq] at e
    obtain ⟨rfl, rfl⟩ := e
    exact ⟨by have := List.mem_range.1 ha; omega, mem_atP.1 hj⟩
  · rintro ⟨h1, h2⟩
    exact ⟨at_, List.mem_range.2 (by omega), List.mem_map.2 ⟨i, mem_atP.2 h2, rfl⟩⟩
/-- Which of two hits comes first. -/
def hitLt (x y : Nat × Nat) : Prop := x.1 < y.1 ∨ (x.1 = y.1 ∧ x.2 < y.2)
theorem atP_up (F : List (List Int)) (l : List Int) (at_ : Nat) : (atP F l at_).Pairwise (· < ·) := List.Pairwise.filter _ (List.pairwise_lt_range)
theorem hitsP_up (F : List (List Int)) (l : List Int) : (hitsP F l).Pairwise hitLt := by
  unfold hitsP
  rw [List.pairwise_flatMap]
  refine ⟨fun a _ => ?_, ?_⟩
  · rw [List.pairwise_map]
    exact (atP_up F l a).imp (fun h => .inr ⟨rfl, h⟩)
  · refine (List.pairwise_lt_range).imp (fun {a b} hab x hx y hy => ?_)
    obtain ⟨i, _, rfl⟩ := List.mem_map.1 hx
    obtain ⟨j, _, rfl⟩ := List.mem_map.1 hy
    exact .inl hab
theorem hitLt_irrefl (x : Nat × Nat) : ¬ hitLt x x := by
  rintro (h | ⟨_, h⟩) <;> omega
theorem hitsP_nodup (F : List (List Int)) (l : List Int) : (hitsP F l).Nodup := (hitsP_up F l).imp (fun {a b} h e => by subst e; exact hitLt_irrefl a h)
/-- A hit of a text stands in each text that it stands in, further on. -/
theorem hits_moved {F : List (List Int)} {s : List Int} (a b : List Int) {at_ i : Nat} (h : (at_, i) ∈ hitsP F s) : (at_ + a.length, i) ∈ hitsP F (a ++ s ++ b) := by
  obtain ⟨h1, h2, h3⟩ := mem_hitsP.1 h
  refine mem_hitsP.2 ⟨by simp; omega, h2, ?_⟩
  have e : (a ++ s ++ b).drop (at_ + a.length) = s.drop at_ ++ b := by
    rw [List.append_assoc, Nat.add_comm, List.drop_append, List.drop_of_length_le (by omega), List.nil_append, show a.length + at_ - a.length = at_ by omega, List.drop_append_of_le_length h1]
  rw [e]
  exact h3.trans (List.prefix_append _ _)
theorem nodup_le {α : Type} [DecidableEq α] : ∀ (x y : List α), x.Nodup → (∀ z ∈ x, z ∈ y) → x.length ≤ y.length := by
  intro x
  induction x with
  | nil => intro y _ _; simp
  | cons a x ih =>
    intro y hn hs
    have ha := hs a (by simp)
    have h1 := ih (y.erase a) (List.nodup_cons.1 hn).2 (fun z hz => by
      have hne : z ≠ a := fun e => (List.nodup_cons.1 hn).1 (e ▸ hz)
      exact (List.mem_erase_of_ne hne).2 (hs z (by simp [hz])))
    rw [List.length_erase_of_mem ha] at h1
    have : 0 < y.length := List.length_pos_of_mem ha
    simp only [List.length_cons]; omega
theorem hits_more (F : List (List Int)) (a s b : List Int) : (hitsP F s).length ≤ (hitsP F (a ++ s ++ b)).length := by
  have h := nodup_le ((hitsP F s).map (fun x => (x.1 + a.length, x.2))) (hitsP F (a ++ s ++ b)) ?_ ?_
  · rwa [List.length_map] at h
  · have hp := hitsP_nodup F s
    unfold List.Nodup at hp ⊢
    rw [List.pairwise_map]
    exact hp.imp (fun {x y} hne e => hne (by
      obtain ⟨x1, x2⟩ := x
      obtain ⟨y1, y2⟩ := y
      simp only [Prod.mk.injEq] at e ⊢
      omega))
  · intro z hz
    obtain ⟨x, hx, rfl⟩ := List.mem_map.1 hz
    exact hits_moved a b hx
/-- Of all hits those of a place. -/
theorem hits_place (F : List (List Int)) (l : List Int) {at_ : Nat} (h : at_ ≤ l.length) : ((hitsP F l).filter (fun x => x.1 == at_)).map (·.2) = atP F l at_ := by
  have key : ∀ n, (((List.range n).flatMap (fun a => (atP F l a).map (fun i => (a, i)))).filter (fun x => x.1 == at_)).map (·.2) = if at_ < n then atP F l at_ else [] := by
    intro n
    induction n with
    | zero => simp
    | succ n ih =>
      rw [List.range_succ, List.flatMap_append, List.filter_append, List.map_append, ih]
      by_cases e : n = at_
      · subst e
        rw [if_neg (by omega), if_pos (by omega)]
        simp [List.filter_map, Function.comp_def]
      · have e2 : ((List.flatMap (fun a => (atP F l a).map (fun i => (a, i))) [n]).filter (fun x => x.1 == at_)) = [] := by
          rw [List.filter_eq_nil_iff]
          intro x hx
          simp only [List.flatMap_cons, List.flatMap_nil, List.append_nil] at hx
          obtain ⟨i, _, rfl⟩ := List.mem_map.1 hx
          simpa using e
        rw [e2, List.map_nil, List.append_nil]
        by_cases h2 : at_ < n
        · rw [if_pos h2, if_pos (by omega)]
        · rw [if_neg h2, if_neg (by omega)]
  have := key (l.length + 1)
  rw [if_pos (by omega)] at this
  exact this
theorem range_one (p : Nat → Bool) (i n : Nat) (h : i < n) : ((List.range n).filter p).filter (fun j => j == i) = if p i then [i] else [] := by
  induction n with
  | zero => omega
  | succ n ih =>
    rw [List.range_succ, List.filter_append, List.filter_append]
    by_cases e : i = n
    · subst e
      have h1 : ((List.range i).filter p).filter (fun j => j == i) = [] := by
        rw [List.filter_eq_nil_iff]
        intro x hx
        have := List.mem_range.1 (List.mem_filter.1 hx).1
        simp; omega
      rw [h1, List.nil_append]
      by_cases hp : p i <;> simp [hp]
    · rw [ih (by omega)]
      have h2 : (([n] : List Nat).filter p).filter (fun j => j == i) = [] := by
        by_cases hp : p n <;> simp [List.filter_cons, hp]
        omega
      rw [h2, List.append_nil]
/-- Of all hits those of one row are its own. -/
theorem hits_alone (F : List (List Int)) (l : List Int) {i : Nat} (h : i < F.length) : (hitsP F l).filter (fun x => x.2 == i) = (hitsP [F.getD i []] l).map (fun x => (x.1, i)) := by
  unfold hitsP
  generalize l.length + 1 = n
  induction n with
  | zero => rfl
  | succ n ih =>
    rw [List.range_succ, List.flatMap_append, List.flatMap_append, List.filter_append, List.map_append, ih]
    congr 1
    simp only [List.flatMap_cons, List.flatMap_nil, List.append_nil]
    have e1 : ((atP F l n).map (fun i => (n, i))).filter (fun x => x.2 == i) = ((atP F l n).filter (fun j => j == i)).map (fun i => (n, i)) := by
      rw [List.filter_map]; rfl
    rw [e1]
    unfold atP
    rw [range_one _ _ _ h]
    by_cases hp : (F.getD i []).isPrefixOf (l.drop n) = true
    · rw [if_pos hp]
      have : (List.range [F.getD i []].length).filter (fun j => ([F.getD i []].getD j []).isPrefixOf (l.drop n)) = [0] := by
        show ([0] : List Nat).filter _ = [0]
        rw [List.filter_cons, if_pos (by simpa using hp)]; rfl
      rw [this]; rfl
    · rw [if_neg hp]
      have : (List.range [F.getD i []].length).filter (fun j => ([F.getD i []].getD j []).isPrefixOf (l.drop n)) = [] := by
        show ([0] : List Nat).filter _ = []
        rw [List.filter_cons, if_neg (by simpa using hp)]; rfl
      rw [this]; rfl

/-- A text more among those that were met. -/
def addM {α : Type} [DecidableEq α] (met : List α) (s : α) : List α := if s ∈ met then met else met ++ [s]
theorem mem_addM {α : Type} [DecidableEq α] {met : List α} {s z : α} : z ∈ addM met s ↔ z ∈ met ∨ z = s := by
  unfold addM
  split
  · rename_i h
    exact ⟨.inl, fun e => by rcases e with e | rfl; exact e; exact h⟩
  · simp
theorem addM_nodup {α : Type} [DecidableEq α] {met : List α} {s : α} (h : met.Nodup) : (addM met s).Nodup := by
  unfold addM
  split
  · exact h
  · rename_i hn
    rw [List.nodup_append]
    exact ⟨h, by simp, fun a ha b hb e => hn (by simp at hb; rw [← hb, ← e]; exact ha)⟩
theorem foldM {α : Type} [DecidableEq α] (l met : List α) (h : met.Nodup) : (l.foldl addM met).Nodup ∧ ∀ z, z ∈ l.foldl addM met ↔ z ∈ met ∨ z ∈ l := by
  induction l generalizing met with
  | nil => exact ⟨h, fun z => by simp⟩
  | cons a l ih =>
    obtain ⟨h1, h2⟩ := ih (addM met a) (addM_nodup h)
    refine ⟨h1, fun z => ?_⟩
    rw [List.foldl_cons, h2 z, mem_addM, List.mem_cons, or_assoc]
/-- The beginnings of a row, but the empty one. -/
def begs (f : List Int) : List (List Int) := (List.range f.length).map (fun n => f.take (n + 1))
theorem begs_len (f : List Int) : (begs f).length = f.length := by simp [begs]
/-- How many states there are. -/
def metP (F : List (List Int)) : List (List Int) := (F.flatMap begs).foldl addM [[]]
def statesP (F : List (List Int)) : Nat := (metP F).length
theorem metP_facts (F : List (List Int)) : (metP F).Nodup ∧ ∀ z, z ∈ metP F ↔ z = [] ∨ ∃ f ∈ F, z ∈ begs f := by
  obtain ⟨h1, h2⟩ := foldM (F.flatMap begs) [[]] (by simp)
  refine ⟨h1, fun z => ?_⟩
  rw [show metP F = (F.flatMap begs).foldl addM [[]] from rfl, h2 z, List.mem_flatMap]
  simp
theorem states_pos (F : List (List Int)) : 1 ≤ statesP F := by
  have := ((metP_facts F).2 []).2 (.inl rfl)
  exact List.length_pos_of_mem this
theorem states_le (F : List (List Int)) : statesP F ≤ 1 + (F.map List.length).sum := by
  have h := nodup_le (metP F) ([] :: F.flatMap begs) (metP_facts F).1 (fun z hz => by
    rcases ((metP_facts F).2 z).1 hz with rfl | ⟨f, hf, hb⟩
    · simp
    · exact List.mem_cons_of_mem _ (List.mem_flatMap.2 ⟨f, hf, hb⟩))
  have e : (F.flatMap begs).length = (F.map List.length).sum := by
    induction F with
    | nil => rfl
    | cons f F ih =>
      rw [List.flatMap_cons, List.length_append, begs_len, List.map_cons, List.sum_cons]
      have h' := nodup_le (metP F) ([] :: F.flatMap begs) (metP_facts F).1 (fun z hz => by
        rcases ((metP_facts F).2 z).1 hz with rfl | ⟨f, hf, hb⟩
        · simp
        · exact List.mem_cons_of_mem _ (List.mem_flatMap.2 ⟨f, hf, hb⟩))
      rw [ih h']
  rw [List.length_cons, e] at h
  unfold statesP; omega
/-- The same rows, and some more: no fewer states; with one row more as many as it has runes, at most. -/
theorem states_more {F G : List (List Int)} (h : ∀ f ∈ F, f ∈ G) : statesP F ≤ statesP G :=
  nodup_le (metP F) (metP G) (metP_facts F).1 (fun z hz => by
    rcases ((metP_facts F).2 z).1 hz with rfl | ⟨f, hf, hb⟩
    · exact ((metP_facts G).2 []).2 (.inl rfl)
    · exact ((metP_facts G).2 z).2 (.inr ⟨f, h f hf, hb⟩))
theorem states_one {F G : List (List Int)} (r : List Int) (h : ∀ g ∈ G, g ∈ F ∨ g = r) : statesP G ≤ statesP F + r.length := by
  have h1 := nodup_le (metP G) (metP F ++ begs r) (metP_facts G).1 (fun z hz => by
    rcases ((metP_facts G).2 z).1 hz with rfl | ⟨f, hf, hb⟩
    · exact List.mem_append_left _ (((metP_facts F).2 []).2 (.inl rfl))
    · rcases h f hf with h2 | rfl
      · exact List.mem_append_left _ (((metP_facts F).2 z).2 (.inr ⟨f, h2, hb⟩))
      · exact List.mem_append_right _ hb)
  rw [List.length_append, begs_len] at h1
  exact h1

theorem sum_one (q : Nat → Bool) (f : Nat → Nat) (m : Nat) : ((List.range m).map (fun i => f i + if q i then 1 else 0)).sum = ((List.range m).map f).sum + ((List.range m).filter q).length := by
  induction m with
  | zero => rfl
  | succ m ih =>
    rw [List.range_succ, List.map_append, List.sum_append, ih, List.map_append, List.sum_append, List.filter_append, List.length_append]
    by_cases h : q m
    · simp [h]; omega
    · simp [h]; omega
/-- Counted by places or by rows: as many. -/
theorem count_both (p : Nat → Nat → Bool) (n m : Nat) : ((List.range n).map (fun a => ((List.range m).filter (p a)).length)).sum = ((List.range m).map (fun i => ((List.range n).filter (fun a => p a i)).length)).sum := by
  induction n with
  | zero =>
    have : ∀ m, ((List.range m).map (fun i => ((List.range 0).filter (fun a => p a i)).length)).sum = 0 := by
      intro m
      induction m with
      | zero => rfl
      | succ m ih => rw [List.range_succ, List.map_append, List.sum_append, ih]; rfl
    rw [this]; rfl
  | succ n ih =>
    have e : (fun i => ((List.range (n + 1)).filter (fun a => p a i)).length) = (fun i => ((List.range n).filter (fun a => p a i)).length + if p n i then 1 else 0) := by
      funext i
      rw [List.range_succ, List.filter_append, List.length_append]
      by_cases h : p n i <;> simp [h]
    rw [e, sum_one (fun i => p n i), ← ih, List.range_succ, List.map_append, List.sum_append]
    simp
theorem hits_len (F : List (List Int)) (l : List Int) : (hitsP F l).length = ((List.range F.length).map (fun i => ((List.range (l.length + 1)).filter (fun a => (F.getD i []).isPrefixOf (l.drop a))).length)).sum := by
  rw [← count_both (fun a i => (F.getD i []).isPrefixOf (l.drop a))]
  unfold hitsP
  rw [List.length_flatMap]
  simp [atP]
end Go.Proofs.YtbbkkoeipkigdaaDoor

/- An automaton's states, plain: the longest end of what was read that is a beginning of some row; how it is reached by falling back; which rows end there. -/
namespace Go.Proofs.YtbbkkoeipkigdaaDoor

/-- The longest end of a row that is of the set. -/
def lsuf (m : List Int → Bool) : List Int → List Int
  | [] => []
  | c :: w => if m (c :: w) then c :: w else lsuf m w
theorem lsuf_end (m : List Int → Bool) (w : List Int) : lsuf m w <:+ w := by
  induction w with
  | nil => exact List.suffix_refl _
  | cons c w ih =>
    rw [lsuf]
    split
    · exact List.suffix_refl _
    · exact ih.trans (List.suffix_cons _ _)
theorem lsuf_in {m : List Int → Bool} (h0 : m [] = true) (w : List Int) : m (lsuf m w) = true := by
  induction w with
  | nil => exact h0
  | cons c w ih =>
    rw [lsuf]
    split
    · assumption
    · exact ih
theorem lsuf_max {m : List Int → Bool} {s w : List Int} (h : s <:+ w) (hs : m s = true) : s <:+ lsuf m w := by
  induction w with
  | nil =>
    obtain rfl := List.suffix_nil.1 h
    exact List.suffix_refl _
  | cons c w ih =>
    rw [lsuf]
    split
    · exact h
    · rename_i hn
      rcases List.suffix_cons_iff.1 h with rfl | h
      · exact absurd hs hn
      · exact ih h
theorem lsuf_whole {m : List Int → Bool} {w : List Int} (h : m w = true) : lsuf m w = w := by
  cases w with
  | nil => rfl
  | cons c w => rw [lsuf, if_pos h]
/-- Two ends that are ends of each other are the same. -/
theorem suffix_both {a b : List Int} (h1 : a <:+ b) (h2 : b <:+ a) : a = b := h1.eq_of_length (Nat.le_antisymm h1.length_le h2.length_le)
/-- What is the longest end is told by this alone. -/
theorem lsuf_uniq {m : List Int → Bool} (h0 : m [] = true) {w x : List Int} (h1 : x <:+ w) (h2 : m x = true) (h3 : ∀ s, s <:+ w → m s = true → s <:+ x) : lsuf m w = x :=
  suffix_both (h3 _ (lsuf_end m w) (lsuf_in h0 w)) (lsuf_max h1 h2)
theorem suffix_snoc {s w : List Int} {c : Int} (h : s <:+ w ++ [c]) : s = [] ∨ ∃ t, t <:+ w ∧ s = t ++ [c] := by
  obtain ⟨p, hp⟩ := h
  rcases List.eq_nil_or_concat s with rfl | ⟨t, d, rfl⟩
  · exact .inl rfl
  · right
    have hp' : (p ++ t) ++ [d] = w ++ [c] := by simpa using hp
    obtain ⟨e1, e2⟩ := List.append_inj' hp' rfl
    obtain rfl : d = c := by simpa using e2
    exact ⟨t, ⟨p, e1⟩, by simp⟩
/-- One rune more: it is enough to know the state. -/
theorem lsuf_step {m : List Int → Bool} (h0 : m [] = true) (hp : ∀ s c, m (s ++ [c]) = true → m s = true) (w : List Int) (c : Int) : lsuf m (w ++ [c]) = lsuf m (lsuf m w ++ [c]) := by
  refine lsuf_uniq h0 ?_ (lsuf_in h0 _) (fun s hs hm => ?_)
  · refine (lsuf_end m _).trans ?_
    obtain ⟨p, hp⟩ := lsuf_end m w
    exact ⟨p, by rw [← List.append_assoc, hp]⟩
  · rcases suffix_snoc hs with rfl | ⟨t, ht, rfl⟩
    · exact List.nil_suffix
    · refine lsuf_max ?_ hm
      obtain ⟨p, hp2⟩ := lsuf_max ht (hp t c hm)
      exact ⟨p, by rw [← List.append_assoc, hp2]⟩
/-- Where a state falls back to. -/
def failP (m : List Int → Bool) (s : List Int) : List Int := lsuf m s.tail
theorem failP_len (m : List Int → Bool) {s : List Int} (h : s ≠ []) : (failP m s).length < s.length := by
  have h1 := (lsuf_end m s.tail).length_le
  have h2 : s.tail.length = s.length - 1 := List.length_tail
  have h3 : 0 < s.length := List.length_pos_iff.2 h
  unfold failP; omega
/-- Falling back till a rune fits: one round. -/
theorem fall_fits {m : List Int → Bool} {s : List Int} {c : Int} (h : m (s ++ [c]) = true) : lsuf m (s ++ [c]) = s ++ [c] := lsuf_whole h
theorem fall_none {m : List Int → Bool} {c : Int} (h : m [c] = false) : lsuf m ([] ++ [c]) = [] := by
  show lsuf m [c] = []
  rw [lsuf, if_neg (by rw [h]; simp)]; rfl
theorem fall_back {m : List Int → Bool} (h0 : m [] = true) (hp : ∀ s c, m (s ++ [c]) = true → m s = true) {s : List Int} {c : Int} (hs : s ≠ []) (h : m (s ++ [c]) = false) : lsuf m (s ++ [c]) = lsuf m (failP m s ++ [c]) := by
  cases s with
  | nil => exact absurd rfl hs
  | cons a t =>
    show lsuf m (a :: (t ++ [c])) = _
    rw [lsuf, if_neg (by rw [show a :: (t ++ [c]) = (a :: t) ++ [c] from rfl, h]; simp)]
    exact lsuf_step h0 hp t c
/-- What ends where a text has been read to ends at its state. -/
theorem ends_state {m : List Int → Bool} {p w : List Int} (hp : m p = true) : p <:+ w ↔ p <:+ lsuf m w := ⟨fun h => lsuf_max h hp, fun h => h.trans (lsuf_end m w)⟩
/-- What ends at a state is the state itself, or ends where it falls back to. -/
theorem ends_fail {m : List Int → Bool} {p s : List Int} (hp : m p = true) (hs : s ≠ []) : p <:+ s ↔ p = s ∨ p <:+ failP m s := by
  cases s with
  | nil => exact absurd rfl hs
  | cons a t =>
    rw [List.suffix_cons_iff, ends_state (w := t) hp]
    rfl
/-- A row stands at a place where it ends at the place behind it. -/
theorem stands_ends {p l : List Int} {at_ : Nat} (h : at_ + p.length ≤ l.length) : p <+: l.drop at_ ↔ p <:+ l.take (at_ + p.length) := by
  constructor
  · rintro ⟨q, hq⟩
    refine ⟨l.take at_, ?_⟩
    have e : l.take (at_ + p.length) = l.take at_ ++ (l.drop at_).take p.length := by rw [List.take_add]
    rw [e, ← hq, List.take_left]
  · rintro ⟨q, hq⟩
    have hl : q.length = at_ := by
      have := congrArg List.length hq
      rw [List.length_append, List.length_take] at this
      omega
    refine ⟨l.drop (at_ + p.length), ?_⟩
    have e1 : l = l.take (at_ + p.length) ++ l.drop (at_ + p.length) := (List.take_append_drop _ _).symm
    have e2 : l.drop at_ = (q ++ p ++ l.drop (at_ + p.length)).drop at_ := by rw [hq]; exact congrArg (List.drop at_) e1
    rw [e2, ← hl, List.append_assoc, List.drop_left]
theorem stands_len {p l : List Int} {at_ : Nat} (h : p <+: l.drop at_) (ha : at_ ≤ l.length) : at_ + p.length ≤ l.length := by
  have := h.length_le
  rw [List.length_drop] at this
  omega
/-- The set of the states of rows. -/
def inM (F : List (List Int)) (s : List Int) : Bool := decide (s ∈ metP F)
theorem inM_nil (F : List (List Int)) : inM F [] = true := decide_eq_true (((metP_facts F).2 []).2 (.inl rfl))
theorem mem_begs {f s : List Int} : s ∈ begs f ↔ s ≠ [] ∧ s <+: f := by
  unfold begs
  rw [List.mem_map]
  constructor
  · rintro ⟨n, hn, rfl⟩
    have := List.mem_range.1 hn
    refine ⟨fun e => ?_, List.take_prefix _ _⟩
    have := congrArg List.length e
    rw [List.length_take, List.length_nil] at this
    omega
  · rintro ⟨h1, h2⟩
    have h3 := List.length_pos_iff.2 h1
    refine ⟨s.length - 1, List.mem_range.2 (by have := h2.length_le; omega), ?_⟩
    rw [show s.length - 1 + 1 = s.length by omega]
    exact (List.prefix_iff_eq_take.1 h2).symm
theorem inM_row {F : List (List Int)} {f : List Int} (h : f ∈ F) : inM F f = true := by
  refine decide_eq_true (((metP_facts F).2 f).2 ?_)
  by_cases e : f = []
  · exact .inl e
  · exact .inr ⟨f, h, mem_begs.2 ⟨e, List.prefix_refl _⟩⟩
theorem inM_less (F : List (List Int)) (s : List Int) (c : Int) (h : inM F (s ++ [c]) = true) : inM F s = true := by
  have h1 := of_decide_eq_true h
  refine decide_eq_true (((metP_facts F).2 s).2 ?_)
  rcases ((metP_facts F).2 _).1 h1 with e | ⟨f, hf, hb⟩
  · simp at e
  · obtain ⟨_, h2⟩ := mem_begs.1 hb
    by_cases e : s = []
    · exact .inl e
    · exact .inr ⟨f, hf, mem_begs.2 ⟨e, (List.prefix_append s [c]).trans h2⟩⟩
end Go.Proofs.YtbbkkoeipkigdaaDoor

/- A tree of states as it is laid, plain: a state more; all beginnings up to a length; the numbers of states. -/
namespace Go.Proofs.YtbbkkoeipkigdaaDoor

/-- All states by their numbers, the empty one first. -/
structure TreeOk (T : List (List Int)) : Prop where
  head : T[0]? = some []
  nodup : T.Nodup
  pre : ∀ s c, s ++ [c] ∈ T → s ∈ T
def inT (T : List (List Int)) (s : List Int) : Bool := decide (s ∈ T)
theorem inT_mem {T : List (List Int)} {s : List Int} : inT T s = true ↔ s ∈ T := by simp [inT]
theorem inT_not {T : List (List Int)} {s : List Int} : inT T s = false ↔ s ∉ T := by simp [inT]
theorem TreeOk.nil_mem {T : List (List Int)} (h : TreeOk T) : [] ∈ T := List.mem_of_getElem? h.head
theorem TreeOk.in_nil {T : List (List Int)} (h : TreeOk T) : inT T [] = true := inT_mem.2 h.nil_mem
theorem TreeOk.in_less {T : List (List Int)} (h : TreeOk T) : ∀ s c, inT T (s ++ [c]) = true → inT T s = true := fun s c hs => inT_mem.2 (h.pre s c (inT_mem.1 hs))
theorem tree_one : TreeOk [[]] := ⟨rfl, by simp, fun s c h => by simp at h⟩
theorem TreeOk.pos {T : List (List Int)} (h : TreeOk T) : 0 < T.length := (List.getElem?_eq_some_iff.1 h.head).1
/-- A number is of one state, a state of one number. -/
theorem TreeOk.inj {T : List (List Int)} (h : TreeOk T) {i j : Nat} {s : List Int} (hi : T[i]? = some s) (hj : T[j]? = some s) : i = j := by
  obtain ⟨h1, e1⟩ := List.getElem?_eq_some_iff.1 hi
  obtain ⟨h2, e2⟩ := List.getElem?_eq_some_iff.1 hj
  have hp := List.pairwise_iff_getElem.1 h.nodup
  rcases Nat.lt_trichotomy i j with h3 | h3 | h3
  · exact absurd (e1.trans e2.symm) (hp i j h1 h2 h3)
  · exact h3
  · exact absurd (e2.trans e1.symm) (hp j i h2 h1 h3)
theorem TreeOk.zero {T : List (List Int)} (h : TreeOk T) {s : List Int} (hs : T[0]? = some s) : s = [] := by
  rw [h.head] at hs; exact (Option.some.inj hs).symm
theorem TreeOk.nz {T : List (List Int)} (h : TreeOk T) {n : Nat} {s : List Int} (hs : T[n]? = some s) (hn : n ≠ 0) : s ≠ [] := fun e => hn (h.inj (by rw [hs, e]) h.head)
theorem TreeOk.of_nil {T : List (List Int)} (h : TreeOk T) {n : Nat} (hs : T[n]? = some []) : n = 0 := h.inj hs h.head
theorem TreeOk.num {T : List (List Int)} {s : List Int} (hs : s ∈ T) : ∃ n : Nat, T[n]? = some s := by
  obtain ⟨n, hn, e⟩ := List.getElem_of_mem hs
  exact ⟨n, by rw [List.getElem?_eq_getElem hn, e]⟩
/-- A state more. -/
theorem TreeOk.add {T : List (List Int)} (h : TreeOk T) {s : List Int} {c : Int} (hs : s ∈ T) (hn : s ++ [c] ∉ T) : TreeOk (T ++ [s ++ [c]]) := by
  refine ⟨?_, ?_, fun t d ht => ?_⟩
  · rw [List.getElem?_append_left h.pos]; exact h.head
  · rw [List.nodup_append]
    exact ⟨h.nodup, by simp, fun a ha b hb e => hn (by simp at hb; rw [← hb, ← e]; exact ha)⟩
  · rcases List.mem_append.1 ht with h1 | h1
    · exact List.mem_append_left _ (h.pre t d h1)
    · simp only [List.mem_singleton] at h1
      obtain ⟨e1, _⟩ := List.append_inj' h1 rfl
      rw [e1]; exact List.mem_append_left _ hs
/-- What is shorter than the new one finds what it found. -/
theorem lsuf_add {T : List (List Int)} {t : List Int} : ∀ x : List Int, x.length < t.length → lsuf (inT (T ++ [t])) x = lsuf (inT T) x := by
  intro x
  induction x with
  | nil => intro _; rfl
  | cons c x ih =>
    intro hx
    have e : inT (T ++ [t]) (c :: x) = inT T (c :: x) := by
      unfold inT
      have hne : c :: x ≠ t := fun e => by rw [e] at hx; omega
      simp [hne]
    rw [lsuf, lsuf, e, ih (by simp only [List.length_cons] at hx; omega)]
theorem failP_add {T : List (List Int)} {t u : List Int} (hu : u.length ≤ t.length) (ht : 0 < t.length) : failP (inT (T ++ [t])) u = failP (inT T) u := by
  unfold failP
  refine lsuf_add _ ?_
  rw [List.length_tail]; omega
theorem lsuf_len (m : List Int → Bool) (x : List Int) : (lsuf m x).length ≤ x.length := (lsuf_end m x).length_le
/-- Where a new state falls back to: a step from where its parent falls back to. -/
theorem fail_new {T : List (List Int)} (h : TreeOk T) {s : List Int} (hs : s ≠ []) (c : Int) : failP (inT (T ++ [s ++ [c]])) (s ++ [c]) = lsuf (inT T) (failP (inT T) s ++ [c]) := by
  have e1 : failP (inT (T ++ [s ++ [c]])) (s ++ [c]) = lsuf (inT T) (s ++ [c]).tail := by
    unfold failP
    refine lsuf_add _ ?_
    rw [List.length_tail]
    simp
  rw [e1]
  cases s with
  | nil => exact absurd rfl hs
  | cons a t =>
    show lsuf (inT T) (t ++ [c]) = _
    rw [lsuf_step h.in_nil h.in_less]
    rfl
theorem fail_first (m : List Int → Bool) (c : Int) : failP m ([] ++ [c]) = [] := rfl

/-- The number of a state. -/
def numT : List (List Int) → List Int → Nat
  | [], _ => 0
  | t :: T, s => if t = s then 0 else numT T s + 1
theorem numT_at : ∀ {T : List (List Int)} {s : List Int}, s ∈ T → T[numT T s]? = some s := by
  intro T
  induction T with
  | nil => intro s h; cases h
  | cons t T ih =>
    intro s h
    rw [numT]
    by_cases e : t = s
    · subst e; simp
    · rw [if_neg e, List.getElem?_cons_succ]
      rcases List.mem_cons.1 h with h1 | h1
      · exact absurd h1.symm e
      · exact ih h1
theorem numT_of {T : List (List Int)} (hT : TreeOk T) {n : Nat} {s : List Int} (h : T[n]? = some s) : numT T s = n := hT.inj (numT_at (List.mem_of_getElem? h)) h
theorem numT_append : ∀ {T : List (List Int)} (X : List (List Int)) {s : List Int}, s ∈ T → numT (T ++ X) s = numT T s := by
  intro T
  induction T with
  | nil => intro X s h; cases h
  | cons t T ih =>
    intro X s h
    rw [List.cons_append, numT, numT]
    by_cases e : t = s
    · rw [if_pos e, if_pos e]
    · rw [if_neg e, if_neg e]
      rcases List.mem_cons.1 h with h1 | h1
      · exact absurd h1.symm e
      · rw [ih X h1]
theorem numT_lt {T : List (List Int)} {s : List Int} (h : s ∈ T) : numT T s < T.length := (List.getElem?_eq_some_iff.1 (numT_at h)).1
theorem numT_nil {T : List (List Int)} (hT : TreeOk T) : numT T [] = 0 := numT_of hT hT.head

/-- All beginnings of rows, of so many runes; of the first rows of one more. -/
def Lv (F : List (List Int)) (k i : Nat) (T : List (List Int)) : Prop :=
  ∀ s, s ∈ T ↔ s = [] ∨ ∃ j f, F[j]? = some f ∧ s <+: f ∧ s.length ≤ (if j < i then k + 1 else k)
theorem Lv.start (F : List (List Int)) : Lv F 0 0 [[]] := by
  intro s
  simp only [List.mem_singleton]
  refine ⟨.inl, fun h => ?_⟩
  rcases h with h | ⟨j, f, _, _, hl⟩
  · exact h
  · rw [if_neg (by omega)] at hl
    exact List.eq_nil_of_length_eq_zero (by omega)
theorem Lv.len {F T : List (List Int)} {k i : Nat} (h : Lv F k i T) {s : List Int} (hs : s ∈ T) : s.length ≤ k + 1 := by
  rcases (h s).1 hs with rfl | ⟨j, f, _, _, hl⟩
  · simp
  · split at hl <;> omega
theorem Lv.has {F T : List (List Int)} {k i j : Nat} (h : Lv F k i T) {f : List Int} (hf : F[j]? = some f) : f.take (if j < i then k + 1 else k) ∈ T := by
  refine (h _).2 (.inr ⟨j, f, hf, List.take_prefix _ _, ?_⟩)
  rw [List.length_take]; omega
/-- The next row: a state of it more, if there is none yet. -/
theorem Lv.more {F T T' : List (List Int)} {k i : Nat} {f : List Int} (h : Lv F k i T) (hf : F[i]? = some f) (hT : ∀ s, s ∈ T' ↔ s ∈ T ∨ s = f.take (k + 1)) : Lv F k (i + 1) T' := by
  intro s
  rw [hT s, h s]
  constructor
  · rintro ((rfl | ⟨j, g, hg, hp, hl⟩) | rfl)
    · exact .inl rfl
    · refine .inr ⟨j, g, hg, hp, ?_⟩
      by_cases hj : j < i
      · rw [if_pos hj] at hl; rw [if_pos (by omega)]; exact hl
      · rw [if_neg hj] at hl; split <;> omega
    · refine .inr ⟨i, f, hf, List.take_prefix _ _, ?_⟩
      rw [if_pos (by omega), List.length_take]; omega
  · rintro (rfl | ⟨j, g, hg, hp, hl⟩)
    · exact .inl (.inl rfl)
    · by_cases hj : j = i
      · subst hj
        rw [hf] at hg
        obtain rfl := Option.some.inj hg
        rw [if_pos (by omega)] at hl
        by_cases h1 : s.length ≤ k
        · exact .inl (.inr ⟨j, f, hf, hp, by rw [if_neg (by omega)]; exact h1⟩)
        · right
          rw [List.prefix_iff_eq_take.1 hp, show s.length = k + 1 by omega]
      · refine .inl (.inr ⟨j, g, hg, hp, ?_⟩)
        by_cases h2 : j < i
        · rw [if_pos h2]; rw [if_pos (by omega)] at hl; exact hl
        · rw [if_neg h2]; rw [if_neg (by omega)] at hl; exact hl
/-- A row that ends ahead of it adds none. -/
theorem Lv.skip {F T : List (List Int)} {k i : Nat} {f : List Int} (h : Lv F k i T) (hf : F[i]? = some f) (hk : ¬ k < f.length) : Lv F k (i + 1) T :=
  h.more hf (fun s => ⟨.inl, fun e => by
    rcases e with e | rfl
    · exact e
    · have := h.has hf
      rw [if_neg (by omega)] at this
      rw [List.take_of_length_le (by omega)] at this ⊢
      exact this⟩)
theorem Lv.next {F T : List (List Int)} {k i : Nat} (h : Lv F k i T) (hi : F.length ≤ i) : Lv F (k + 1) 0 T := by
  intro s
  rw [h s]
  have e : ∀ (j : Nat) (f : List Int), F[j]? = some f → (if j < i then k + 1 else k) = if j < 0 then k + 1 + 1 else k + 1 := fun j f hj => by
    have := (List.getElem?_eq_some_iff.1 hj).1
    rw [if_pos (by omega), if_neg (by omega)]
  constructor
  · rintro (rfl | ⟨j, f, hf, hp, hl⟩)
    · exact .inl rfl
    · exact .inr ⟨j, f, hf, hp, by rw [← e j f hf]; exact hl⟩
  · rintro (rfl | ⟨j, f, hf, hp, hl⟩)
    · exact .inl rfl
    · exact .inr ⟨j, f, hf, hp, by rw [e j f hf]; exact hl⟩
/-- In the end all beginnings are there. -/
theorem Lv.whole {F T : List (List Int)} {k : Nat} (h : Lv F k 0 T) (hk : ∀ f ∈ F, f.length ≤ k) (s : List Int) : s ∈ T ↔ s ∈ metP F := by
  rw [h s, (metP_facts F).2 s]
  constructor
  · rintro (rfl | ⟨j, f, hf, hp, hl⟩)
    · exact .inl rfl
    · by_cases e : s = []
      · exact .inl e
      · exact .inr ⟨f, List.mem_of_getElem? hf, mem_begs.2 ⟨e, hp⟩⟩
  · rintro (rfl | ⟨f, hf, hb⟩)
    · exact .inl rfl
    · obtain ⟨j, hj, e⟩ := List.getElem_of_mem hf
      obtain ⟨_, hp⟩ := mem_begs.1 hb
      refine .inr ⟨j, f, by rw [List.getElem?_eq_getElem hj, e], hp, ?_⟩
      rw [if_neg (by omega)]
      exact Nat.le_trans hp.length_le (hk f hf)
theorem whole_len {F T : List (List Int)} (hT : TreeOk T) (h : ∀ s, s ∈ T ↔ s ∈ metP F) : T.length = statesP F :=
  Nat.le_antisymm (nodup_le _ _ hT.nodup (fun z hz => (h z).1 hz)) (nodup_le _ _ (metP_facts F).1 (fun z hz => (h z).2 hz))
theorem whole_in {F T : List (List Int)} (h : ∀ s, s ∈ T ↔ s ∈ metP F) : inT T = inM F := by
  funext s
  unfold inT inM
  exact decide_eq_decide.2 (h s)

/-- The rows that a state is. -/
def idxP (F : List (List Int)) (n : Nat) (s : List Int) : List Nat := (List.range n).filter (fun i => F.getD i [] == s)
theorem idxP_zero (F : List (List Int)) (s : List Int) : idxP F 0 s = [] := rfl
theorem idxP_succ (F : List (List Int)) (n : Nat) (s : List Int) : idxP F (n + 1) s = idxP F n s ++ if F.getD n [] == s then [n] else [] := by
  unfold idxP
  rw [List.range_succ, List.filter_append]
  congr 1
  rw [List.filter_cons]
  by_cases h : (F.getD n [] == s) = true
  · rw [if_pos h, if_pos h]; rfl
  · rw [if_neg h, if_neg h]; rfl
theorem mem_idxP {F : List (List Int)} {n i : Nat} {s : List Int} : i ∈ idxP F n s ↔ i < n ∧ F.getD i [] = s := by simp [idxP, List.mem_filter]
theorem idxP_len (F : List (List Int)) (n : Nat) (s : List Int) : (idxP F n s).length ≤ n := by
  have := List.length_filter_le (fun i => F.getD i [] == s) (List.range n)
  unfold idxP
  simpa using this
theorem idxP_up (F : List (List Int)) (n : Nat) (s : List Int) : (idxP F n s).Pairwise (· < ·) := List.Pairwise.filter _ List.pairwise_lt_range

/-- The states on the way back. -/
def chain (m : List Int → Bool) : Nat → List Int → List (List Int)
  | 0, _ => []
  | d + 1, s => s :: if s = [] then [] else chain m d (failP m s)
theorem chain_mem {m : List Int → Bool} (hn : m [] = true) : ∀ (d : Nat) (s p : List Int), s.length < d → m s = true → (p ∈ chain m d s ↔ p <:+ s ∧ m p = true) := by
  intro d
  induction d with
  | zero => intro s p h; omega
  | succ d ih =>
    intro s p hs hm
    rw [chain, List.mem_cons]
    by_cases e : s = []
    · subst e
      simp only [if_true, List.not_mem_nil, or_false, List.suffix_nil]
      exact ⟨fun h => ⟨h, by rw [h]; exact hn⟩, fun h => h.1⟩
    · rw [if_neg e]
      have h1 := failP_len m e
      have h2 : m (failP m s) = true := lsuf_in hn _
      rw [ih _ _ (by omega) h2]
      constructor
      · rintro (rfl | ⟨h3, h4⟩)
        · exact ⟨List.suffix_refl _, hm⟩
        · exact ⟨(ends_fail h4 e).2 (.inr h3), h4⟩
      · rintro ⟨h3, h4⟩
        rcases (ends_fail h4 e).1 h3 with h5 | h5
        · exact .inl h5
        · exact .inr ⟨h5, h4⟩
theorem chain_down {m : List Int → Bool} : ∀ (d : Nat) (s : List Int), (chain m d s).Pairwise (fun a b => b.length < a.length) ∧ ∀ p ∈ chain m d s, p.length ≤ s.length := by
  intro d
  induction d with
  | zero => intro s; exact ⟨List.Pairwise.nil, fun p hp => by cases hp⟩
  | succ d ih =>
    intro s
    rw [chain]
    by_cases e : s = []
    · subst e
      simp
    · rw [if_neg e]
      have h1 := failP_len m e
      obtain ⟨h2, h3⟩ := ih (failP m s)
      refine ⟨List.pairwise_cons.2 ⟨fun p hp => by have := h3 p hp; omega, h2⟩, fun p hp => ?_⟩
      rcases List.mem_cons.1 hp with rfl | hp
      · exact Nat.le_refl _
      · have := h3 p hp; omega
end Go.Proofs.YtbbkkoeipkigdaaDoor

/- Words of this seat: a slice value that reads as a list of numbers (int32), kept wherever old blocks are kept; the order of two lists. -/
namespace Go.Proofs.YtbbkkoeipkigdaaDoor
open Go.RowKit

/-- The slice value v reads as the list l of int32: nil or empty where l is empty; else its cells hold l one behind the other. -/
def Runs (w : World) (v : Value) (l : List Int) : Prop :=
  ∃ A c, v = .slice A l.length c ∧ l.length ≤ c ∧ (c ≤ maxLen ∧ (A = none → c = 0)) ∧
    (0 < l.length → ∃ b o, A = some ⟨b, o, none⟩ ∧ b < w.heap.size ∧ ∀ j, j < l.length → w.cell? ⟨b, o + j, none⟩ = some (.int .i32 (l.getD j 0)))

theorem Runs.below {w w' : World} {v : Value} {l : List Int} (h : Runs w v l) (hb : Below w.heap.size w w') : Runs w' v l := by
  obtain ⟨A, c, e, hc, hm, hx⟩ := h
  refine ⟨A, c, e, hc, hm, fun h0 => ?_⟩
  obtain ⟨b, o, eA, hlt, hcell⟩ := hx h0
  exact ⟨b, o, eA, Nat.lt_of_lt_of_le hlt hb.size, fun j hj => (hb.cell (p := ⟨b, o + j, none⟩) hlt).trans (hcell j hj)⟩

theorem Runs.nil_ (w : World) : Runs w (.slice none 0 0) [] := ⟨none, 0, rfl, by simp, by simp [maxLen], fun h => absurd h (by simp)⟩

theorem Runs.of_own {w : World} {base : Nat} {e : TypeId} {v : Value} {n : Nat} {l : List Int} (h : w.ownsRow base e 1 v n (l.map (Value.int .i32))) : Runs w v l := by
  obtain ⟨hlen, hv⟩ := h
  have hn : l.length = n := by simpa using hlen
  subst hn
  rcases hv with ⟨rfl, h0⟩ | ⟨g, cap, cur, rfl, _, hg, hle, hcap, hsz, htk⟩
  · exact ⟨none, 0, by rw [h0], by omega, by simp [maxLen], fun hp => absurd hp (by omega)⟩
  · refine ⟨_, cap, rfl, hle, ⟨hcap, fun h => by cases h⟩, fun _ => ⟨g, 0, rfl, (Array.getElem?_eq_some_iff.1 hg).1, fun j hj => ?_⟩⟩
    rw [cell_of_row w g (0 + j) cur e (0, 0) hg]
    have hj' : j < (cur.toList.take (l.length * 1)).length := by rw [htk]; simpa using hj
    have h2 : (cur.toList.take (l.length * 1))[j]? = some (Value.int .i32 (l.getD j 0)) := by
      rw [htk]; simp [List.getD_eq_getElem?_getD, hj]
    rw [List.getElem?_take] at h2
    rw [if_pos (by omega)] at h2
    simpa using h2

/-- -1, 0, 1: by the first two that differ, or as one has more. -/
def cmpL : List Int → List Int → Int
  | [], [] => 0
  | [], _ :: _ => -1
  | _ :: _, [] => 1
  | a :: x, b :: y => if a < b then -1 else if b < a then 1 else cmpL x y

theorem cmpL_drop {x y : List Int} {k : Nat} (hx : k < x.length) (hy : k < y.length) :
    cmpL (x.drop k) (y.drop k) = if x.getD k 0 < y.getD k 0 then -1 else if y.getD k 0 < x.getD k 0 then 1 else cmpL (x.drop (k + 1)) (y.drop (k + 1)) := by
  rw [List.drop_eq_getElem_cons hx, List.drop_eq_getElem_cons hy]
  simp [cmpL, List.getD_eq_getElem?_getD, hx, hy]
theorem cmpL_lt {x y : List Int} (hx : x = []) (hy : 0 < y.length) : cmpL x y = -1 := by
  subst hx; cases y with
  | nil => simp at hy
  | cons _ _ => rfl
theorem cmpL_gt {x y : List Int} (hx : 0 < x.length) (hy : y = []) : cmpL x y = 1 := by
  subst hy; cases x with
  | nil => simp at hx
  | cons _ _ => rfl
theorem cmpL_eq {x y : List Int} : cmpL x y = 0 ↔ x = y := by
  induction x generalizing y with
  | nil => cases y <;> simp [cmpL]
  | cons a x ih =>
    cases y with
    | nil => simp [cmpL]
    | cons b y =>
      simp only [cmpL]
      by_cases h1 : a < b
      · simp [h1]; intro h; omega
      · by_cases h2 : b < a
        · simp [h1, h2]; intro h; omega
        · have : a = b := by omega
          simp [ih, this]
theorem cmpL_bd (x y : List Int) : cmpL x y = -1 ∨ cmpL x y = 0 ∨ cmpL x y = 1 := by
  induction x generalizing y with
  | nil => cases y <;> simp [cmpL]
  | cons a x ih =>
    cases y with
    | nil => simp [cmpL]
    | cons b y =>
      simp only [cmpL]
      split
      · simp
      · split
        · simp
        · exact ih y

theorem ret_int {k : IntKind} {a b : Int} (h : a = b) : Ending.returned (.int k a) = .returned (.int k b) := by rw [h]
theorem ret_bool {a b : Bool} (h : a = b) : Ending.returned (.bool a) = .returned (.bool b) := by rw [h]
/-- Nothing was done but some draws of an order. -/
def Drawn (w w' : World) : Prop := ∃ q, w' = w.drewN q
theorem Drawn.refl (w : World) : Drawn w w := ⟨0, rfl⟩
theorem Drawn.of (w : World) (a : Nat) : Drawn w (w.drewN a) := ⟨a, rfl⟩
theorem Drawn.of2 (w : World) (a b : Nat) : Drawn w ((w.drewN a).drewN b) := ⟨a + b, by rw [World.drewN_drewN]⟩
theorem Drawn.of3 (w : World) (a b c : Nat) : Drawn w (((w.drewN a).drewN b).drewN c) := ⟨a + b + c, by simp only [World.drewN_drewN, Nat.add_assoc]⟩
theorem Drawn.trans {a b c : World} (h : Drawn a b) (k : Drawn b c) : Drawn a c := by
  obtain ⟨x, rfl⟩ := h; obtain ⟨y, rfl⟩ := k; exact Drawn.of2 _ _ _
theorem below_draws {B : Nat} {a w : World} (h : Below B a w) (n : Nat) : Below B a (w.drewN n) := ⟨h.os, h.tape, h.output, h.size, h.block⟩
theorem Drawn.below {w w' : World} (h : Drawn w w') (B : Nat) : Below B w w' := by obtain ⟨q, rfl⟩ := h; exact below_draws (Below.refl _ _) q
end Go.Proofs.YtbbkkoeipkigdaaDoor

/- A map from a state and a rune to the state behind it: its keys, what it reads as, one state more. -/
namespace Go.Proofs.YtbbkkoeipkigdaaDoor
open Go.RowKit
set_option linter.unusedSimpArgs false
set_option linter.unusedVariables false

theorem laidOut8 : laidOutB Tryd.prog = true := by kernel_rfl
theorem edge_law : WideMaps.KeyLaw Tryd.prog 83 := deep_law_laid (P := Tryd.prog) laidOut8 (m := 2) (by decide) (of_decide_eq_true (by kernel_rfl)) (by kernel_rfl) (by kernel_rfl)
theorem edge_keyed : Maps.Keyed Tryd.prog 83 := Maps.Keyed.of_law edge_law

/-- What a state and a rune read as, as a key. -/
def keyE (n r : Int) : Lit := .string (keyBytes [.int .i64 n, .int .i32 r])
theorem klit_int (d : Nat) (n : Int) (h : (Lit.int .i64 n).wf = true) : Tryd.prog.keyLits (d + 1) 3 [.int .i64 n] = some [.int .i64 n] := by
  simp [Program.keyLits, Tryd.underlying3, h]
theorem klit_i32 (d : Nat) (n : Int) (h : (Lit.int .i32 n).wf = true) : Tryd.prog.keyLits (d + 1) 21 [.int .i32 n] = some [.int .i32 n] := by
  simp [Program.keyLits, Tryd.underlying21, h]
theorem cellsI : Tryd.prog.cellsOf 3 = 1 := by kernel_rfl
theorem cellsI32 : Tryd.prog.cellsOf 21 = 1 := by kernel_rfl
theorem cellsEdge : Tryd.prog.cellsOf 83 = 2 := by kernel_rfl
theorem keyTypeEdge : Tryd.prog.keyType 83 = true := by kernel_rfl
theorem typesSizeE : ∃ d, Tryd.prog.types.size + 1 = d + 1 + 1 := ⟨Tryd.prog.types.size - 1, by
  have h : 1 ≤ Tryd.prog.types.size := by
    have : 83 < Tryd.prog.types.size := of_decide_eq_true (by kernel_rfl)
    omega
  omega⟩
theorem klit_edge (d : Nat) (u v : Value) : Tryd.prog.keyLits (d + 1 + 1) 83 [u, v] = (Tryd.prog.keyLits (d + 1) 3 [u]).bind fun x => (Tryd.prog.keyLits (d + 1) 21 [v]).map fun y => x ++ y := by
  conv => lhs; unfold Program.keyLits
  simp only [Tryd.underlying83, cellsEdge, cellsI, cellsI32]
  cases h1 : Tryd.prog.keyLits (d + 1) 3 [u] with
  | none => simp [h1, cellsI, cellsI32]
  | some x =>
    cases h2 : Tryd.prog.keyLits (d + 1) 21 [v] with
    | none => simp [h1, h2, cellsI, cellsI32]
    | some y => simp [h1, h2, cellsI, cellsI32]
theorem keyOf_edge (n r : Int) (hn : (Lit.int .i64 n).wf = true) (hr : (Lit.int .i32 r).wf = true) : keyOf Tryd.prog 83 (.agg #[.int .i64 n, .int .i32 r]) = some (keyE n r) := by
  obtain ⟨d, hd⟩ := typesSizeE
  unfold keyOf
  rw [Tryd.underlying83]
  simp only [keyTypeEdge, Bool.true_and]
  rw [if_pos (by simp [Value.formed, Tryd.underlying83, cellsEdge]), hd]
  show Option.map _ (Tryd.prog.keyLits (d + 1 + 1) 83 [.int .i64 n, .int .i32 r]) = _
  rw [klit_edge, klit_int d n hn, klit_i32 d r hr]
  rfl
theorem keyE_inj {a b c d : Int} (ha : (Lit.int .i64 a).wf = true) (hb : (Lit.int .i32 b).wf = true) (hc : (Lit.int .i64 c).wf = true) (hd : (Lit.int .i32 d).wf = true) (h : keyE a b = keyE c d) : a = c ∧ b = d := by
  have h1 := keyOf_edge a b ha hb
  rw [h] at h1
  have := edge_keyed.inj h1 (keyOf_edge c d hc hd)
  simpa using this
theorem keyE_isKey (a b : Int) : WideAt.IsKeyLit (keyE a b) := trivial
theorem wf_nat {n : Nat} (h : n ≤ 2000000000) : (Lit.int .i64 (n : Int)).wf = true := WalkArith.wf_i64 (by omega)

abbrev EdgMap (w : World) (m n : Nat) (D : DataW Unit) : Prop := w.ownsMap Tryd.prog 83 (plainElem Tryd.prog 3) m n D
/-- What the map reads as, over the states. -/
structure ViewE (D : DataW Unit) (T : List (List Int)) : Prop where
  has : ∀ (n : Nat) (s : List Int) (r : Int), T[n]? = some s → (Lit.int .i32 r).wf = true → Maps.has D (keyE n r) = inT T (s ++ [r])
  at_ : ∀ (n k : Nat) (s : List Int) (r : Int), T[n]? = some s → T[k]? = some (s ++ [r]) → (Lit.int .i32 r).wf = true → D.atKey (keyE n r) (.lit (.int .i64 0)) = .lit (.int .i64 k)
  far : ∀ (n : Nat) (r : Int), T.length ≤ n → n ≤ 2000000000 → (Lit.int .i32 r).wf = true → Maps.has D (keyE n r) = false
theorem ViewE.none_ : ViewE (.map []) [[]] := by
  refine ⟨fun n s r h _ => ?_, fun n k s r h hk _ => ?_, fun n r _ _ _ => rfl⟩
  · have e : inT [[]] (s ++ [r]) = false := inT_not.2 (by simp)
    rw [e]; rfl
  · have : k = 0 := by
      cases k with
      | zero => rfl
      | succ k => simp at hk
    subst this
    simp at hk
theorem ViewE.put {D : DataW Unit} {T : List (List Int)} (h : ViewE D T) (hD : Maps.IsMap D) (hT : TreeOk T) (hl : T.length ≤ 1000000000) {n0 : Nat} {s0 : List Int} {r0 : Int} (h0 : T[n0]? = some s0) (hn : s0 ++ [r0] ∉ T) (hr0 : (Lit.int .i32 r0).wf = true) :
    ViewE (D.put (keyE n0 r0) (.lit (.int .i64 T.length))) (T ++ [s0 ++ [r0]]) := by
  have hT' := hT.add (List.mem_of_getElem? h0) hn
  have h0l := (List.getElem?_eq_some_iff.1 h0).1
  have h0' : (T ++ [s0 ++ [r0]])[n0]? = some s0 := by rw [List.getElem?_append_left h0l]; exact h0
  have hnew : (T ++ [s0 ++ [r0]])[T.length]? = some (s0 ++ [r0]) := by simp
  have key : ∀ (n : Nat) (s : List Int) (r : Int), (T ++ [s0 ++ [r0]])[n]? = some s → (Lit.int .i32 r).wf = true → (n = n0 ∧ r = r0 ∧ s = s0) ∨ (keyE n r ≠ keyE n0 r0 ∧ ((n < T.length ∧ T[n]? = some s ∧ (s ++ [r] ≠ s0 ++ [r0])) ∨ (n = T.length ∧ s = s0 ++ [r0]))) := by
    intro n s r hs hr
    have hnl := (List.getElem?_eq_some_iff.1 hs).1
    simp only [List.length_append, List.length_cons, List.length_nil] at hnl
    by_cases e : n = n0 ∧ r = r0
    · obtain ⟨rfl, rfl⟩ := e
      rw [h0'] at hs
      exact .inl ⟨rfl, rfl, (Option.some.inj hs).symm⟩
    · right
      refine ⟨fun e2 => e ?_, ?_⟩
      · obtain ⟨e3, e4⟩ := keyE_inj (wf_nat (by omega)) hr (wf_nat (by omega)) hr0 e2
        exact ⟨by omega, e4⟩
      · by_cases hlt : n < T.length
        · rw [List.getElem?_append_left hlt] at hs
          refine .inl ⟨hlt, hs, fun e2 => e ?_⟩
          obtain ⟨e3, e4⟩ := List.append_inj' e2 rfl
          subst e3
          exact ⟨hT.inj hs h0, by simpa using e4⟩
        · have : n = T.length := by omega
          subst this
          rw [hnew] at hs
          exact .inr ⟨rfl, (Option.some.inj hs).symm⟩
  refine ⟨fun n s r hs hr => ?_, fun n k s r hs hk hr => ?_, fun n r hn1 hn2 hr => ?_⟩
  · rcases key n s r hs hr with ⟨rfl, rfl, rfl⟩ | ⟨hne, ⟨hlt, hs', hd⟩ | ⟨rfl, rfl⟩⟩
    · rw [Maps.has_put_same hD (keyE_isKey _ _)]
      symm; rw [inT_mem]; simp
    · rw [Maps.has_put_other hne, h.has n s r hs' hr]
      unfold inT
      simp only [List.mem_append, List.mem_singleton, hd, or_false]
    · rw [Maps.has_put_other hne, h.far _ r (Nat.le_refl _) (by omega) hr]
      symm
      rw [inT_not]
      intro hm
      rcases List.mem_append.1 hm with h1 | h1
      · exact hn (hT.pre _ _ h1)
      · have := congrArg List.length (List.mem_singleton.1 h1)
        simp at this
  · rcases key n s r hs hr with ⟨rfl, rfl, rfl⟩ | ⟨hne, ⟨hlt, hs', hd⟩ | ⟨rfl, rfl⟩⟩
    · rw [Maps.atKey_put_same hD (keyE_isKey _ _)]
      rw [hT'.inj hk hnew]
    · rw [Maps.atKey_put_other hne]
      refine h.at_ n k s r hs' ?_ hr
      have hkl := (List.getElem?_eq_some_iff.1 hk).1
      simp only [List.length_append, List.length_cons, List.length_nil] at hkl
      by_cases hk2 : k < T.length
      · rwa [List.getElem?_append_left hk2] at hk
      · have : k = T.length := by omega
        subst this
        rw [hnew] at hk
        exact absurd (Option.some.inj hk).symm hd
    · exfalso
      have hm := List.mem_of_getElem? hk
      rcases List.mem_append.1 hm with h1 | h1
      · exact hn (hT.pre _ _ h1)
      · have := congrArg List.length (List.mem_singleton.1 h1)
        simp at this
  · have hlen : T.length + 1 ≤ n := by simpa using hn1
    have hne : keyE n r ≠ keyE n0 r0 := fun e => by
      obtain ⟨e3, _⟩ := keyE_inj (wf_nat hn2) hr (wf_nat (by omega)) hr0 e
      omega
    rw [Maps.has_put_other hne]
    exact h.far n r (by omega) hn2 hr
theorem int_zeroE (w : World) : (zeroValue 3).run Tryd.prog w = .ok (.int .i64 0) w := by kernel_rfl
end Go.Proofs.YtbbkkoeipkigdaaDoor

/- Slices of structs, for any of them: a value that reads as a list whose elements have so many cells each; append of one. -/
namespace Go.Proofs.YtbbkkoeipkigdaaDoor
open Go.RowKit

/-- All cells of a list, one behind the other. -/
def gCells {α : Type} (enc : α → List Value) (l : List α) : List Value := l.flatMap enc
theorem gCells_len {α : Type} {enc : α → List Value} {k : Nat} (hk : ∀ x, (enc x).length = k) (l : List α) : (gCells enc l).length = l.length * k := by
  induction l with
  | nil => simp [gCells]
  | cons x l ih =>
    show (enc x ++ gCells enc l).length = _
    rw [List.length_append, hk, ih, List.length_cons, Nat.succ_mul]; omega
theorem gCells_snoc {α : Type} (enc : α → List Value) (l : List α) (x : α) : gCells enc (l ++ [x]) = gCells enc l ++ enc x := by simp [gCells]
theorem gCells_append {α : Type} (enc : α → List Value) (l r : List α) : gCells enc (l ++ r) = gCells enc l ++ gCells enc r := by simp [gCells]
theorem gCells_at {α : Type} {enc : α → List Value} {k : Nat} (hk : ∀ x, (enc x).length = k) (l : List α) (j i : Nat) (x : α) (hj : l[j]? = some x) (hi : i < k) : (gCells enc l)[j * k + i]? = (enc x)[i]? := by
  induction l generalizing j with
  | nil => simp at hj
  | cons y l ih =>
    show (enc y ++ gCells enc l)[j * k + i]? = _
    cases j with
    | zero =>
      have e : y = x := by simpa using hj
      subst e
      rw [Nat.zero_mul, Nat.zero_add, List.getElem?_append_left (by rw [hk]; exact hi)]
    | succ j =>
      rw [List.getElem?_append_right (by rw [hk, Nat.succ_mul]; omega), hk, show (j + 1) * k + i - k = j * k + i by rw [Nat.succ_mul]; omega]
      exact ih j (by simpa using hj)

/-- The slice value v reads as the list l. -/
def GRuns {α : Type} (enc : α → List Value) (k : Nat) (w : World) (v : Value) (l : List α) : Prop :=
  ∃ A c, v = .slice A l.length c ∧ l.length ≤ c ∧ (c ≤ maxLen ∧ (A = none → c = 0)) ∧
    (0 < l.length → ∃ b o, A = some ⟨b, o, none⟩ ∧ b < w.heap.size ∧ ∀ j x, l[j]? = some x → ∀ i u, (enc x)[i]? = some u → w.cell? ⟨b, o + j * k + i, none⟩ = some u)
theorem GRuns.below {α : Type} {enc : α → List Value} {k : Nat} {w w' : World} {v : Value} {l : List α} (h : GRuns enc k w v l) (hb : Below w.heap.size w w') : GRuns enc k w' v l := by
  obtain ⟨A, c, e, hc, hm, hx⟩ := h
  refine ⟨A, c, e, hc, hm, fun h0 => ?_⟩
  obtain ⟨b, o, eA, hlt, hcell⟩ := hx h0
  exact ⟨b, o, eA, Nat.lt_of_lt_of_le hlt hb.size, fun j x hj i u hu => (hb.cell (p := ⟨b, _, none⟩) hlt).trans (hcell j x hj i u hu)⟩
theorem GRuns.nil_ {α : Type} (enc : α → List Value) (k : Nat) (w : World) : GRuns enc k w (.slice none 0 0) [] := ⟨none, 0, rfl, by simp, by simp [maxLen], fun h => absurd h (by simp)⟩
theorem GRuns.slice {α : Type} {enc : α → List Value} {k : Nat} {w : World} {v : Value} {l : List α} (h : GRuns enc k w v l) : ∃ A c, v = .slice A l.length c := by
  obtain ⟨A, c, e, _⟩ := h
  exact ⟨A, c, e⟩
/-- Element j's cells, where the length is named. -/
theorem GRuns.cells {α : Type} {enc : α → List Value} {k : Nat} {w : World} {A : Option Addr} {n c : Nat} {l : List α} (h : GRuns enc k w (.slice A n c) l) (hn : l.length = n) (h0 : 0 < n) :
    ∃ b o, A = some ⟨b, o, none⟩ ∧ b < w.heap.size ∧ ∀ j x, l[j]? = some x → ∀ i u, (enc x)[i]? = some u → w.cell? ⟨b, o + j * k + i, none⟩ = some u := by
  obtain ⟨A', c', e, _, _, hx⟩ := h
  rw [hn] at e hx
  obtain ⟨rfl, _, rfl⟩ := Value.slice.inj e
  exact hx h0
theorem GRuns.of_own {α : Type} {enc : α → List Value} {k : Nat} (hk : ∀ x, (enc x).length = k) {w : World} {base : Nat} {v : Value} {n : Nat} {l : List α} {e : TypeId} (hn : l.length = n) (h : w.ownsRow base e k v n (gCells enc l)) : GRuns enc k w v l := by
  obtain ⟨hlen, hv⟩ := h
  subst hn
  rcases hv with ⟨rfl, h0⟩ | ⟨g, cap, cur, rfl, _, hg, hle, hcap, hsz, htk⟩
  · exact ⟨none, 0, by rw [h0], by omega, by simp [maxLen], fun hp => absurd hp (by omega)⟩
  · refine ⟨_, cap, rfl, hle, ⟨hcap, fun h => by cases h⟩, fun _ => ⟨g, 0, rfl, (Array.getElem?_eq_some_iff.1 hg).1, fun j x hj i u hu => ?_⟩⟩
    have hi : i < k := by have := (List.getElem?_eq_some_iff.1 hu).1; rwa [hk] at this
    have hjl : j < l.length := (List.getElem?_eq_some_iff.1 hj).1
    rw [cell_of_row w g (0 + j * k + i) cur e (0, 0) hg]
    have h2 := gCells_at hk l j i x hj hi
    have hlt : j * k + i < l.length * k := by
      have := Nat.mul_le_mul_right k (show j + 1 ≤ l.length from hjl)
      rw [Nat.succ_mul] at this
      omega
    rw [← htk, List.getElem?_take, if_pos hlt, hu] at h2
    simpa using h2
/-- append(v, x) to a row of the call's own: the literal lies in a new block. -/
theorem append_one {P : Program} {α : Type} {enc : α → List Value} {k bytes : Nat} {tS tE : TypeId} {z : Value} (hk : ∀ x, (enc x).length = k) (h1 : ∀ x, ∀ u ∈ enc x, u.oneCell' = true) (hinfo : (P.info? tE).map (fun i => (i.zero, i.size, i.bytes)) = some (some z, k, bytes)) (hzl : z.cells.size = k) (hk0 : 0 < bytes) (hk1 : 0 < k)
    (hU : P.underlying tS = some (.slice tE)) (w : World) (base : Nat) (v : Value) (n : Nat) (xs : List Value) (hown : w.ownsRow base tE k v n xs) (x : α) (hbase : base ≤ w.heap.size) (hlen : (n + 1) * bytes ≤ 140737488355328) :
    ∃ v' w', (Builtin.append_ #[tS, tS] tS #[v, .slice (some ⟨w.heap.size, 0, none⟩) 1 1]).run P (w.alloc (.cells (enc x).toArray tE)) = .ok v' w' ∧ w'.ownsRow base tE k v' (n + 1) (xs ++ enc x) ∧
      (w.alloc (.cells (enc x).toArray tE)).grownBy w' v.ownBlock ∧ (v'.ownBlock = v.ownBlock ∨ v'.ownBlock = some (w.heap.size + 1)) := by
  obtain ⟨i0, hi, hz0, hz1, hz2⟩ := info_parts hinfo
  obtain ⟨v', w', hrun, h2, h3, _, h5⟩ := run_append_own_at (P := P) (w.alloc (.cells (enc x).toArray tE)) base tS tS tE i0 z k bytes hU hi hz0 hz1 hz2 hzl hk1 v n xs (hown.alloc _) ⟨w.heap.size, 0, none⟩ 1 1 (enc x) (by rw [hk]; simp)
    (fun j u hj => by
      have e : (⟨w.heap.size, 0, none⟩ : Addr).add j = ⟨w.heap.size, 0 + j, none⟩ := by unfold Addr.add; simp; omega
      rw [e, cell_of_row _ _ _ _ _ _ (heap_alloc_new w _)]
      simpa using hj) (h1 x) (by have : n + 1 ≤ (n + 1) * bytes := Nat.le_mul_of_pos_right _ hk0; unfold maxLen; omega) hlen (by simp; omega)
  exact ⟨v', w', hrun, h2, h3, by simpa using h5⟩

theorem take_set' {α : Type} (l : List α) (m j : Nat) (u : α) (h : j < m) : (l.set j u).take m = (l.take m).set j u := by
  apply List.ext_getElem?
  intro i
  rw [List.getElem?_take, List.getElem?_set, List.getElem?_set, List.getElem?_take, List.length_take]
  by_cases hi : i < m
  · simp only [hi, if_true]
    by_cases hij : j = i
    · subst hij
      have hm : (j < min m l.length) = (j < l.length) := propext (by omega)
      simp [hm]
    · simp [hij]
  · simp only [hi, if_false]
    rw [if_neg (by omega)]
/-- A store into a row of the call's own. -/
theorem own_store {w : World} {base : Nat} {e : TypeId} {size g cap n : Nat} {xs : List Value} (h : w.ownsRow base e size (.slice (some ⟨g, 0, none⟩) n cap) n xs) (j : Nat) (hj : j < n * size) (u : Value) :
    (w.setCell ⟨g, j, none⟩ u).ownsRow base e size (.slice (some ⟨g, 0, none⟩) n cap) n (xs.set j u) := by
  obtain ⟨hl, hv⟩ := h
  rcases hv with ⟨h0, _⟩ | ⟨g', cap', cur, e1, hb, hg, h1, h2, h3, h4⟩
  · cases h0
  · simp only [Value.slice.injEq, Option.some.injEq, Addr.mk.injEq] at e1
    obtain ⟨⟨rfl, _⟩, _, rfl⟩ := e1
    refine ⟨by simpa using hl, .inr ⟨g, cap, cur.setIfInBounds j u, rfl, hb, ?_, h1, h2, by simpa using h3, ?_⟩⟩
    · obtain ⟨hlt, hk⟩ := Array.getElem?_eq_some_iff.1 hg
      show (w.heap.modify g _)[g]? = _
      rw [Array.getElem?_eq_getElem (by rw [Array.size_modify]; exact hlt), Array.getElem_modify_self, hk]
      rfl
    · rw [Array.toList_setIfInBounds, take_set' _ _ _ _ hj, h4]
theorem own_thaw {w : World} {base : Nat} {e : TypeId} {size g cap n : Nat} {xs : List Value} (h : w.ownsRow base e size (.slice (some ⟨g, 0, none⟩) n cap) n xs) (j : Nat) : w.frozen? ⟨g, j, none⟩ = false := by
  rcases h.2 with ⟨h0, _⟩ | ⟨g', cap', cur, e1, hb, hg, h1, h2, h3, h4⟩
  · cases h0
  · simp only [Value.slice.injEq, Option.some.injEq, Addr.mk.injEq] at e1
    obtain ⟨⟨rfl, _⟩, _, rfl⟩ := e1
    simp [World.frozen?, hg]
/-- Rows of two kinds are two blocks. -/
theorem own_apart {w : World} {base base' : Nat} {e e' : TypeId} {size size' n n' : Nat} {v v' : Value} {xs xs' : List Value} (h : w.ownsRow base e size v n xs) (h' : w.ownsRow base' e' size' v' n' xs') (hne : e ≠ e') : v.ownBlock = none ∨ v.ownBlock ≠ v'.ownBlock := by
  rcases h.2 with ⟨rfl, _⟩ | ⟨g, cap, cur, rfl, hb, hg, h1, h2, h3, h4⟩
  · exact .inl rfl
  · rcases h'.2 with ⟨rfl, _⟩ | ⟨g', cap', cur', rfl, hb', hg', h1', h2', h3', h4'⟩
    · exact .inr (by simp [Value.ownBlock])
    · refine .inr fun e1 => ?_
      obtain rfl : g = g' := by simpa [Value.ownBlock] using e1
      rw [hg] at hg'
      simp only [Option.some.injEq, Obj.cells.injEq] at hg'
      exact hne hg'.2.1
theorem own_lt' {w : World} {base : Nat} {e : TypeId} {size n : Nat} {v : Value} {xs : List Value} (h : w.ownsRow base e size v n xs) : ∀ g, v.ownBlock = some g → g < w.heap.size := by
  intro g hg
  rcases h.2 with ⟨rfl, _⟩ | ⟨g', cap, cur, rfl, _, hh, _⟩
  · simp [Value.ownBlock] at hg
  · obtain rfl : g' = g := by simpa [Value.ownBlock] using hg
    exact (Array.getElem?_eq_some_iff.1 hh).1
end Go.Proofs.YtbbkkoeipkigdaaDoor

