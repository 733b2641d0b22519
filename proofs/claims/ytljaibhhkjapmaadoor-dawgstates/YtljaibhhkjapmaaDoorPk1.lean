/- Texts that several proofs of this seat share, one behind the other: KPlain. -/
import Derived.Sort.Walk0
/- Layer 10, plain: rests behind beginnings, the states that are met, their numbers and edges; no two the same; how many there are. -/
namespace Go.Proofs.YtljaibhhkjapmaaDoor
set_option linter.unusedVariables false
set_option linter.unusedSectionVars false
section
variable {α : Type} [DecidableEq α]

/-- What of some rests stands behind a rune. -/
def behR : List (List α) → α → List (List α)
  | [], _ => []
  | [] :: l, r => behR l r
  | (a :: t) :: l, r => if a = r then t :: behR l r else behR l r
/-- The runes that rests begin with, each told again where another one stood between. -/
def hdsG : Option α → List (List α) → List α
  | _, [] => []
  | p, [] :: l => hdsG p l
  | p, (a :: _) :: l => if p = some a then hdsG p l else a :: hdsG (some a) l
def hdsR (l : List (List α)) : List α := hdsG none l
/-- Letters together. -/
def ltrs (l : List (List α)) : Nat := (l.map List.length).sum

theorem behR_append (l m : List (List α)) (r : α) : behR (l ++ m) r = behR l r ++ behR m r := by
  induction l with
  | nil => rfl
  | cons x l ih =>
    cases x with
    | nil => simpa [behR] using ih
    | cons a t => simp only [List.cons_append, behR]; split <;> simp [ih]
theorem mem_behR {l : List (List α)} {r : α} {t : List α} : t ∈ behR l r ↔ (r :: t) ∈ l := by
  induction l with
  | nil => simp [behR]
  | cons x l ih =>
    cases x with
    | nil => simp [behR, ih]
    | cons a u =>
      simp only [behR]
      split
      · rename_i h; subst h; simp [ih]
      · rename_i h; simp [ih]; exact fun h' => absurd h'.symm h
theorem ltrs_behR (l : List (List α)) (r : α) : ltrs (behR l r) + (behR l r).length ≤ ltrs l := by
  induction l with
  | nil => simp [behR, ltrs]
  | cons x l ih =>
    simp only [ltrs] at ih ⊢
    cases x with
    | nil => simpa [behR] using ih
    | cons a t =>
      simp only [behR]
      split <;> simp <;> omega
theorem behR_len (l : List (List α)) (r : α) : (behR l r).length ≤ l.length := by
  induction l with
  | nil => simp [behR]
  | cons x l ih =>
    cases x with
    | nil => simp [behR]; omega
    | cons a t => simp only [behR]; split <;> simp <;> omega
theorem mem_hdsG {l : List (List α)} {r : α} : ∀ {p : Option α}, r ∈ hdsG p l → ∃ t, (r :: t) ∈ l := by
  induction l with
  | nil => intro p h; simp [hdsG] at h
  | cons x l ih =>
    intro p h
    cases x with
    | nil => obtain ⟨t, ht⟩ := ih h; exact ⟨t, by simp [ht]⟩
    | cons a u =>
      simp only [hdsG] at h
      split at h
      · obtain ⟨t, ht⟩ := ih h; exact ⟨t, by simp [ht]⟩
      · rcases List.mem_cons.1 h with rfl | h
        · exact ⟨u, by simp⟩
        · obtain ⟨t, ht⟩ := ih h; exact ⟨t, by simp [ht]⟩
theorem mem_hdsG' {l : List (List α)} {r : α} {t : List α} : (r :: t) ∈ l → ∀ p : Option α, r ∈ hdsG p l ∨ p = some r := by
  induction l with
  | nil => exact fun h => by simp at h
  | cons x l ih =>
    intro h p
    rcases List.mem_cons.1 h with e | h2
    · subst e
      simp only [hdsG]
      split
      · rename_i e; exact .inr e
      · exact .inl (by simp)
    · clear h
      have h := h2
      clear h2
      cases x with
      | nil => exact ih h p
      | cons a u =>
        simp only [hdsG]
        split
        · exact ih h p
        · rcases ih h (some a) with h1 | h1
          · exact .inl (by simp [h1])
          · cases h1; exact .inl (by simp)
theorem mem_hdsR {l : List (List α)} {r : α} : r ∈ hdsR l ↔ ∃ t, (r :: t) ∈ l :=
  ⟨mem_hdsG, fun ⟨_, h⟩ => (mem_hdsG' h none).resolve_right (by simp)⟩
theorem behR_pos {l : List (List α)} {r : α} (h : r ∈ hdsR l) : 0 < (behR l r).length := by
  obtain ⟨t, ht⟩ := mem_hdsR.1 h
  exact List.length_pos_of_mem (mem_behR.2 ht)
theorem ltrs_lt {l : List (List α)} {r : α} (h : r ∈ hdsR l) : ltrs (behR l r) < ltrs l := by
  have := ltrs_behR l r
  have := behR_pos h
  omega

/-- The states that are met from some rests on, behind those that were met before: each by its rests. -/
def visQ : Nat → List (List (List α)) → List (List α) → List (List (List α))
  | 0, all, _ => all
  | n + 1, all, q => if q ∈ all then all else (hdsR q).foldl (fun a r => visQ n a (behR q r)) (all ++ [q])

theorem fold_pre {β γ : Type} (P : List β → List β → Prop) (hr : ∀ a, P a a) (ht : ∀ a b c, P a b → P b c → P a c) (f : List β → γ → List β) (hf : ∀ a r, P a (f a r)) (l : List γ) : ∀ a, P a (l.foldl f a) := by
  induction l with
  | nil => exact hr
  | cons r l ih => exact fun a => ht _ _ _ (hf a r) (ih _)
theorem visQ_pre (n : Nat) : ∀ (all : List (List (List α))) q, all <+: visQ n all q := by
  induction n with
  | zero => exact fun all _ => List.prefix_refl _
  | succ n ih =>
    intro all q
    rw [visQ]
    split
    · exact List.prefix_refl _
    · exact (List.prefix_append _ _).trans (fold_pre (fun a b => a <+: b) List.prefix_refl (fun _ _ _ h h' => h.trans h') _ (fun a r => ih a _) _ _)
theorem visQ_fold_pre (n : Nat) (q : List (List α)) (l : List α) (a : List (List (List α))) : a <+: l.foldl (fun a r => visQ n a (behR q r)) a :=
  fold_pre (fun a b => a <+: b) List.prefix_refl (fun _ _ _ h h' => h.trans h') _ (fun a r => visQ_pre n a _) _ _
theorem visQ_mem (n : Nat) (all : List (List (List α))) (q : List (List α)) : q ∈ visQ (n + 1) all q := by
  rw [visQ]
  split
  · assumption
  · exact (visQ_fold_pre n q _ _).subset (by simp)
theorem visQ_nodup (n : Nat) : ∀ (all : List (List (List α))) q, all.Nodup → (visQ n all q).Nodup := by
  induction n with
  | zero => exact fun all _ h => h
  | succ n ih =>
    intro all q h
    rw [visQ]
    split
    · exact h
    · rename_i hq
      have h1 : (all ++ [q]).Nodup := by
        rw [List.nodup_append]
        refine ⟨h, by simp, ?_⟩
        intro a ha b hb
        simp at hb
        subst hb
        exact fun e => hq (e ▸ ha)
      clear hq h
      generalize all ++ [q] = a at h1
      generalize hdsR q = l
      induction l generalizing a with
      | nil => exact h1
      | cons r l ih2 => exact ih2 _ (ih _ _ h1)
/-- Rests behind some runes. -/
def behP (q : List (List α)) (p : List α) : List (List α) := p.foldl behR q
theorem mem_behP {p : List α} : ∀ {q : List (List α)} {t : List α}, t ∈ behP q p ↔ (p ++ t) ∈ q := by
  induction p with
  | nil => intro q t; exact Iff.rfl
  | cons r p ih => intro q t; exact ih.trans mem_behR
theorem behP_snoc (q : List (List α)) (p : List α) (r : α) : behP q (p ++ [r]) = behR (behP q p) r := by simp [behP]
/-- What is met is met behind some runes, which a word begins with. -/
theorem visQ_from (w : List (List α)) (n : Nat) : ∀ (all : List (List (List α))) p, (p = [] ∨ behP w p ≠ []) → ∀ x ∈ visQ n all (behP w p), x ∈ all ∨ ∃ p', (p' = [] ∨ behP w p' ≠ []) ∧ x = behP w p' := by
  induction n with
  | zero => exact fun all _ _ x h => .inl h
  | succ n ih =>
    intro all p hp x hx
    rw [visQ] at hx
    split at hx
    · exact .inl hx
    · have key : ∀ (l : List α) (hl : ∀ r ∈ l, r ∈ hdsR (behP w p)) (a : List (List (List α))), x ∈ l.foldl (fun a r => visQ n a (behR (behP w p) r)) a → x ∈ a ∨ ∃ p', (p' = [] ∨ behP w p' ≠ []) ∧ x = behP w p' := by
        intro l
        induction l with
        | nil => exact fun _ a h => .inl h
        | cons r l ih2 =>
          intro hl a h
          rcases ih2 (fun r hr => hl r (by simp [hr])) _ h with h1 | h1
          · have hb := behR_pos (hl r (by simp))
            replace h1 : x ∈ visQ n a (behR (behP w p) r) := h1
            rw [← behP_snoc] at h1 hb
            exact ih _ _ (.inr (by intro e; rw [e] at hb; simp at hb)) _ h1
          · exact .inr h1
      rcases key _ (fun r hr => hr) _ hx with h1 | h1
      · rcases List.mem_append.1 h1 with h1 | h1
        · exact .inl h1
        · exact .inr ⟨p, hp, by simpa using h1⟩
      · exact .inr h1
/-- What is newly met has all that it leads to among what is met. -/
theorem visQ_closed (n : Nat) : ∀ (all : List (List (List α))) q, ltrs q < n → ∀ x ∈ visQ n all q, x ∉ all → ∀ r ∈ hdsR x, behR x r ∈ visQ n all q := by
  induction n with
  | zero => intro all q h; omega
  | succ n ih =>
    intro all q hq x hx hxa r hr
    rw [visQ] at hx ⊢
    split at hx
    · exact absurd hx hxa
    rename_i hqa
    rw [if_neg hqa]
    have key : ∀ (l : List α) (hl : ∀ r ∈ l, r ∈ hdsR q) (a : List (List (List α))), (∀ r ∈ l, behR q r ∈ l.foldl (fun a r => visQ n a (behR q r)) a) ∧ (x ∈ l.foldl (fun a r => visQ n a (behR q r)) a → x ∉ a → behR x r ∈ l.foldl (fun a r => visQ n a (behR q r)) a) := by
      intro l
      induction l with
      | nil => exact fun _ a => ⟨by simp, fun h h' => absurd h h'⟩
      | cons s l ih2 =>
        intro hl a
        have hs : ltrs (behR q s) < n := by have := ltrs_lt (hl s (by simp)); omega
        obtain ⟨i1, i2⟩ := ih2 (fun r hr => hl r (by simp [hr])) (visQ n a (behR q s))
        simp only [List.foldl_cons]
        refine ⟨fun r hr => ?_, fun h1 h2 => ?_⟩
        · rcases List.mem_cons.1 hr with rfl | hr
          · refine (visQ_fold_pre n q l _).subset ?_
            obtain ⟨m, rfl⟩ : ∃ m, n = m + 1 := ⟨n - 1, by omega⟩
            exact visQ_mem m a _
          · exact i1 r hr
        · by_cases h3 : x ∈ visQ n a (behR q s)
          · exact (visQ_fold_pre n q l _).subset (ih _ _ hs x h3 h2 r hr)
          · exact i2 h1 h3
    obtain ⟨k1, k2⟩ := key (hdsR q) (fun r hr => hr) (all ++ [q])
    by_cases h4 : x = q
    · subst h4; exact k1 r hr
    · exact k2 hx (by simp [hxa, h4])
/-- All states of words, as runes, in the order that they are met. -/
def staQ (w : List (List α)) : List (List (List α)) := visQ (ltrs w + 1) [] w
theorem staQ_mem (w : List (List α)) : w ∈ staQ w := visQ_mem _ _ _
theorem staQ_nodup (w : List (List α)) : (staQ w).Nodup := visQ_nodup _ _ _ (by simp)
theorem staQ_closed {w x : List (List α)} {r : α} (hx : x ∈ staQ w) (hr : r ∈ hdsR x) : behR x r ∈ staQ w :=
  visQ_closed _ _ _ (by omega) x hx (by simp) r hr
theorem staQ_from {w x : List (List α)} (hx : x ∈ staQ w) : ∃ p, (p = [] ∨ behP w p ≠ []) ∧ x = behP w p :=
  (visQ_from w _ [] [] (.inl rfl) x hx).resolve_left (by simp)
theorem staQ_len (w : List (List α)) : 0 < (staQ w).length := List.length_pos_of_mem (staQ_mem w)
theorem staQ_zero (w : List (List α)) : (staQ w)[0]? = some w := by
  unfold staQ
  rw [visQ, if_neg (by simp), List.nil_append]
  obtain ⟨t, ht⟩ := visQ_fold_pre (ltrs w) w (hdsR w) [w]
  rw [← ht]; rfl
theorem behP_ne {w : List (List α)} {p : List α} : behP w p ≠ [] ↔ ∃ t, (p ++ t) ∈ w := by
  constructor
  · intro h
    obtain ⟨t, ht⟩ := List.exists_mem_of_ne_nil _ h
    exact ⟨t, mem_behP.1 ht⟩
  · rintro ⟨t, ht⟩ e
    have := mem_behP.2 ht
    rw [e] at this
    simp at this
/-- Each beginning of a word leads to a state. -/
theorem staQ_beh {w : List (List α)} (p : List α) (hp : behP w p ≠ []) : behP w p ∈ staQ w := by
  obtain ⟨t, ht⟩ := behP_ne.1 hp
  have key : ∀ (p s : List α), behP w s ∈ staQ w → (s ++ p ++ t) ∈ w → behP w (s ++ p) ∈ staQ w := by
    intro p
    induction p with
    | nil => intro s h _; simpa using h
    | cons r p ih =>
      intro s h h2
      have e : s ++ r :: p = (s ++ [r]) ++ p := by simp
      rw [e] at h2 ⊢
      refine ih _ ?_ h2
      rw [behP_snoc]
      exact staQ_closed h (mem_hdsR.2 ⟨p ++ t, mem_behP.2 (by simpa using h2)⟩)
  exact key p [] (staQ_mem w) (by simpa using ht)
/-- All beginnings of words. -/
def begsK (w : List (List α)) : List (List α) := [] :: w.flatMap (fun x => (List.range x.length).map (fun k => x.take (k + 1)))
theorem begsK_len (w : List (List α)) : (begsK w).length = 1 + ltrs w := by
  simp only [begsK, List.length_cons]
  rw [Nat.add_comm]
  congr 1
  induction w with
  | nil => rfl
  | cons x w ih => simp only [List.flatMap_cons, List.length_append, List.length_map, List.length_range, ih, ltrs, List.map_cons, List.sum_cons]
theorem mem_begsK {w : List (List α)} {p : List α} (h : p = [] ∨ ∃ t, (p ++ t) ∈ w) : p ∈ begsK w := by
  rcases h with rfl | ⟨t, ht⟩
  · simp [begsK]
  · cases p with
    | nil => simp [begsK]
    | cons a p =>
      refine List.mem_cons.2 (.inr (List.mem_flatMap.2 ⟨_, ht, List.mem_map.2 ⟨p.length, by simp; omega, by simp⟩⟩))
theorem nodup_leK {β : Type} [DecidableEq β] : ∀ {l m : List β}, l.Nodup → (∀ x ∈ l, x ∈ m) → l.length ≤ m.length := by
  intro l
  induction l with
  | nil => simp
  | cons x l ih =>
    intro m hl hm
    rw [List.nodup_cons] at hl
    have h1 := ih (m := m.erase x) hl.2 (fun y hy => by
      rw [List.mem_erase_of_ne (fun e => hl.1 (by rw [← e]; exact hy))]
      exact hm y (by simp [hy]))
    rw [List.length_erase_of_mem (hm x (by simp))] at h1
    have := List.length_pos_of_mem (hm x (by simp))
    simp only [List.length_cons]
    omega
/-- There are no more states than beginnings. -/
theorem staQ_most (w : List (List α)) : (staQ w).length ≤ 1 + ltrs w := by
  have e : ((begsK w).map (behP w)).length = (begsK w).length := List.length_map _
  rw [← begsK_len, ← e]
  refine nodup_leK (staQ_nodup w) (fun x hx => ?_)
  obtain ⟨p, hp, rfl⟩ := staQ_from hx
  exact List.mem_map.2 ⟨p, mem_begsK (hp.imp_right behP_ne.1), rfl⟩
/-- With words more, of one word alone, there come no more states than it has letters, and one. -/
theorem staQ_more {w m : List (List α)} {x : List α} (h : ∀ p, (∀ t, p ++ t ≠ x) → behP m p = behP w p) : (staQ m).length ≤ (staQ w).length + (x.length + 1) := by
  have e : ((List.range (x.length + 1)).map (fun k => behP m (x.take k))).length = x.length + 1 := by simp
  rw [← e, ← List.length_append]
  refine nodup_leK (staQ_nodup m) (fun y hy => ?_)
  obtain ⟨p, hp, rfl⟩ := staQ_from hy
  by_cases hx : ∃ t, p ++ t = x
  · obtain ⟨t, rfl⟩ := hx
    exact List.mem_append.2 (.inr (List.mem_map.2 ⟨p.length, by simp; omega, by simp⟩))
  · have hb := h p (fun t e => hx ⟨t, e⟩)
    refine List.mem_append.2 (.inl ?_)
    rw [hb]
    rcases hp with rfl | hp
    · exact absurd ⟨x, rfl⟩ hx
    · exact staQ_beh p (by rw [← hb]; exact hp)

/-- A state as it is told: its rests, whether a word ends, where each rune leads. -/
abbrev StD (α : Type) := List (List α) × Bool × List (α × Nat)
def visS : Nat → List (StD α) → List (List α) → List (StD α) × Nat
  | 0, all, _ => (all, 0)
  | n + 1, all, q =>
    if q ∈ all.map (·.1) then (all, (all.map (·.1)).idxOf q) else
      let R := (hdsR q).foldl (fun (p : List (StD α) × List (α × Nat)) r => ((visS n p.1 (behR q r)).1, p.2 ++ [(r, (visS n p.1 (behR q r)).2)])) (all ++ [(q, decide ([] ∈ q), [])], [])
      (R.1.set all.length (q, decide ([] ∈ q), R.2), all.length)
/-- What is told of some rests, where all states are known. -/
def stF (Q : List (List (List α))) (x : List (List α)) : StD α := (x, decide ([] ∈ x), (hdsR x).map (fun r => (r, Q.idxOf (behR x r))))
theorem idxOf_pre {β : Type} [BEq β] [LawfulBEq β] {l m : List β} {x : β} (h : l <+: m) (hx : x ∈ l) : m.idxOf x = l.idxOf x := by
  obtain ⟨t, rfl⟩ := h
  rw [List.idxOf_append, if_pos hx]
theorem stF_pre {Q Q' : List (List (List α))} {x : List (List α)} (h : Q <+: Q') (hx : ∀ r ∈ hdsR x, behR x r ∈ Q) : stF Q' x = stF Q x := by
  unfold stF
  congr 2
  exact List.map_congr_left (fun r hr => by rw [idxOf_pre h (hx r hr)])
/-- In a list without doubles, what stands behind a beginning does not stand in it. -/
theorem nodup_behind {β γ : Type} {f : β → γ} {l m : List β} {Q : List γ} (h : m.map f = Q) (hQ : Q.Nodup) (hp : l <+: m) {i : Nat} {s : β} (hi : l.length ≤ i) (hs : m[i]? = some s) : f s ∈ Q ∧ f s ∉ l.map f := by
  subst h
  obtain ⟨t, rfl⟩ := hp
  rw [List.getElem?_append_right hi] at hs
  have ht := List.mem_of_getElem? hs
  refine ⟨List.mem_map.2 ⟨s, by simp [ht], rfl⟩, fun h => ?_⟩
  rw [List.map_append, List.nodup_append] at hQ
  exact hQ.2.2 _ h _ (List.mem_map.2 ⟨s, ht, rfl⟩) rfl
/-- One step of going on by a rune. -/
def stepS (n : Nat) (q : List (List α)) (p : List (StD α) × List (α × Nat)) (r : α) : List (StD α) × List (α × Nat) :=
  ((visS n p.1 (behR q r)).1, p.2 ++ [(r, (visS n p.1 (behR q r)).2)])
abbrev rst (l : List (StD α)) : List (List (List α)) := l.map (·.1)
def SpecS (n : Nat) (all : List (StD α)) (q : List (List α)) : Prop :=
  rst (visS n all q).1 = visQ n (rst all) q ∧ (visS n all q).2 = (visQ n (rst all) q).idxOf q ∧ all <+: (visS n all q).1 ∧
    ∀ i s, all.length ≤ i → (visS n all q).1[i]? = some s → s = stF (visQ n (rst all) q) s.1
theorem fold_spec (n : Nat) (q : List (List α)) (ih : ∀ (all : List (StD α)) q, ltrs q < n → (rst all).Nodup → SpecS n all q) :
    ∀ (l : List α) (hl : ∀ r ∈ l, ltrs (behR q r) < n) (p : List (StD α) × List (α × Nat)), (rst p.1).Nodup →
      rst (l.foldl (stepS n q) p).1 = l.foldl (fun a r => visQ n a (behR q r)) (rst p.1) ∧
      (l.foldl (stepS n q) p).2 = p.2 ++ l.map (fun r => (r, (l.foldl (fun a r => visQ n a (behR q r)) (rst p.1)).idxOf (behR q r))) ∧
      p.1 <+: (l.foldl (stepS n q) p).1 ∧
      ∀ i s, p.1.length ≤ i → (l.foldl (stepS n q) p).1[i]? = some s → s = stF (l.foldl (fun a r => visQ n a (behR q r)) (rst p.1)) s.1 := by
  intro l
  induction l with
  | nil =>
    intro _ p _
    refine ⟨rfl, by simp, List.prefix_refl _, fun i s hi hs => ?_⟩
    rw [List.foldl_nil, List.getElem?_eq_none hi] at hs
    exact absurd hs (by simp)
  | cons r l ih2 =>
    intro hl p hnd
    have hr := hl r (by simp)
    obtain ⟨a1, a2, a3, a4⟩ := ih p.1 (behR q r) hr hnd
    have hc1 := visQ_closed n (rst p.1) (behR q r) hr
    have hn1 := visQ_nodup n (rst p.1) (behR q r) hnd
    obtain ⟨b1, b2, b3, b4⟩ := ih2 (fun r hr => hl r (by simp [hr])) (stepS n q p r) (by show (rst (visS n p.1 (behR q r)).1).Nodup; rw [a1]; exact hn1)
    have e1 : rst (stepS n q p r).1 = visQ n (rst p.1) (behR q r) := a1
    rw [e1] at b1 b2 b4
    have hpre := visQ_fold_pre n q l (visQ n (rst p.1) (behR q r))
    have hmem : behR q r ∈ visQ n (rst p.1) (behR q r) := by
      obtain ⟨k, rfl⟩ : ∃ k, n = k + 1 := ⟨n - 1, by omega⟩
      exact visQ_mem k _ _
    simp only [List.foldl_cons]
    refine ⟨b1, ?_, a3.trans b3, fun i s hi hs => ?_⟩
    · rw [b2, List.map_cons, idxOf_pre hpre hmem, ← a2]
      simp [stepS]
    · by_cases h5 : i < (visS n p.1 (behR q r)).1.length
      · obtain ⟨t, ht⟩ := b3
        rw [← ht, List.getElem?_append_left (show i < (stepS n q p r).1.length from h5)] at hs
        have e := a4 i s hi hs
        obtain ⟨g1, g2⟩ := nodup_behind a1 hn1 a3 hi hs
        rw [stF_pre hpre (hc1 s.1 g1 g2)]
        exact e
      · exact b4 i s (by simpa [stepS] using h5) hs
theorem visS_spec (n : Nat) : ∀ (all : List (StD α)) q, ltrs q < n → (rst all).Nodup → SpecS n all q := by
  induction n with
  | zero => intro all q h; omega
  | succ n ih =>
    intro all q hq hnd
    unfold SpecS
    by_cases hin : q ∈ rst all
    · rw [visS, if_pos hin, visQ, if_pos hin]
      refine ⟨rfl, rfl, List.prefix_refl _, fun i s hi hs => ?_⟩
      rw [List.getElem?_eq_none hi] at hs
      exact absurd hs (by simp)
    have hn1 : (rst (all ++ [(q, decide ([] ∈ q), [])])).Nodup := by
      rw [rst, List.map_append, List.nodup_append]
      refine ⟨hnd, by simp, ?_⟩
      intro a ha b hb
      simp at hb
      subst hb
      exact fun e => hin (e ▸ ha)
    obtain ⟨k1, k2, k3, k4⟩ := fold_spec n q ih (hdsR q) (fun r hr => by have := ltrs_lt hr; omega) (all ++ [(q, decide ([] ∈ q), [])], []) hn1
    have e0 : rst (all ++ [(q, decide ([] ∈ q), ([] : List (α × Nat)))]) = rst all ++ [q] := by simp [rst]
    simp only [e0] at k1 k2 k4
    have hu : visQ (n + 1) (rst all) q = (hdsR q).foldl (fun a r => visQ n a (behR q r)) (rst all ++ [q]) := by rw [visQ, if_neg hin]
    have hs : visS (n + 1) all q = (((hdsR q).foldl (stepS n q) (all ++ [(q, decide ([] ∈ q), [])], [])).1.set all.length (q, decide ([] ∈ q), ((hdsR q).foldl (stepS n q) (all ++ [(q, decide ([] ∈ q), [])], [])).2), all.length) := by
      rw [visS, if_neg hin]; rfl
    rw [hs]
    rw [← hu] at k1 k2 k4
    generalize hF : (hdsR q).foldl (stepS n q) (all ++ [(q, decide ([] ∈ q), [])], []) = F at *
    generalize hV : visQ (n + 1) (rst all) q = V at *
    obtain ⟨t, ht⟩ := k3
    have hlen : all.length < F.1.length := by rw [← ht]; simp
    have hset : F.1.set all.length (q, decide ([] ∈ q), F.2) = all ++ (q, decide ([] ∈ q), F.2) :: t := by
      rw [← ht]; simp
    have hrs : rst (F.1.set all.length (q, decide ([] ∈ q), F.2)) = V := by
      rw [hset, ← k1, ← ht]; simp [rst]
    refine ⟨hrs, ?_, ?_, fun i s hi hs2 => ?_⟩
    · show all.length = _
      rw [← k1, ← ht, rst, List.map_append, List.map_append, List.append_assoc, List.idxOf_append, if_neg hin]
      simp
    · rw [hset]; exact ⟨_, rfl⟩
    · replace hs2 : (F.1.set all.length (q, decide ([] ∈ q), F.2))[i]? = some s := hs2
      by_cases h5 : i = all.length
      · subst h5
        rw [List.getElem?_set_self hlen] at hs2
        obtain rfl := Option.some.inj hs2
        rw [k2]
        rfl
      · rw [List.getElem?_set_ne (fun e => h5 e.symm)] at hs2
        exact k4 i s (by simp; omega) hs2
/-- All that is told of words: each state by what leads on from it. -/
theorem visS_all (w : List (List α)) (n : Nat) (hn : ltrs w < n) : (visS n [] w).1 = (visQ n [] w).map (stF (visQ n [] w)) ∧ (visS n [] w).2 = 0 := by
  obtain ⟨h1, h2, h3, h4⟩ := visS_spec n [] w hn (by simp [rst])
  replace h1 : rst (visS n [] w).1 = visQ n [] w := h1
  replace h2 : (visS n [] w).2 = (visQ n [] w).idxOf w := h2
  replace h4 : ∀ i s, 0 ≤ i → (visS n [] w).1[i]? = some s → s = stF (visQ n [] w) s.1 := h4
  refine ⟨?_, ?_⟩
  · apply List.ext_getElem?
    intro i
    have h6 : (visQ n [] w)[i]? = ((visS n [] w).1[i]?).map (·.1) := by rw [← h1, rst, List.getElem?_map]
    rw [List.getElem?_map, h6, Option.map_map]
    cases e : (visS n [] w).1[i]? with
    | none => rfl
    | some s => exact congrArg some (h4 i s (Nat.zero_le _) e)
  · rw [h2]
    obtain ⟨k, rfl⟩ : ∃ k, n = k + 1 := ⟨n - 1, by omega⟩
    rw [visQ, if_neg (by simp), List.nil_append, idxOf_pre (visQ_fold_pre k w _ _) (by simp)]
    simp

/-! Words that rise: what tells states apart. -/
theorem ll_irrefl (x : List Int) : ¬ x < x := List.lt_irrefl x
theorem rising_ext : ∀ {l m : List (List Int)}, l.Pairwise (· < ·) → m.Pairwise (· < ·) → (∀ x, x ∈ l ↔ x ∈ m) → l = m := by
  intro l
  induction l with
  | nil =>
    intro m _ _ h
    cases m with
    | nil => rfl
    | cons y m => exact absurd ((h y).2 (by simp)) (by simp)
  | cons x l ih =>
    intro m hl hm h
    cases m with
    | nil => exact absurd ((h x).1 (by simp)) (by simp)
    | cons y m =>
      rw [List.pairwise_cons] at hl hm
      have e : x = y := by
        rcases List.mem_cons.1 ((h x).1 (by simp)) with e | h1
        · exact e
        rcases List.mem_cons.1 ((h y).2 (by simp)) with e | h2
        · exact e.symm
        exact absurd (List.lt_trans (hl.1 y h2) (hm.1 x h1)) (ll_irrefl x)
      subst e
      rw [ih hl.2 hm.2 (fun z => ?_)]
      constructor
      · intro hz
        rcases List.mem_cons.1 ((h z).1 (by simp [hz])) with e | h1
        · exact absurd (hl.1 z hz) (by rw [e]; exact ll_irrefl x)
        · exact h1
      · intro hz
        rcases List.mem_cons.1 ((h z).2 (by simp [hz])) with e | h1
        · exact absurd (hm.1 z hz) (by rw [e]; exact ll_irrefl x)
        · exact h1
theorem beh_rising {l : List (List Int)} (h : l.Pairwise (· < ·)) (r : Int) : (behR l r).Pairwise (· < ·) := by
  induction l with
  | nil => exact List.Pairwise.nil
  | cons x l ih =>
    rw [List.pairwise_cons] at h
    cases x with
    | nil => exact ih h.2
    | cons a t =>
      simp only [behR]
      split
      · rename_i e
        subst e
        rw [List.pairwise_cons]
        refine ⟨fun y hy => ?_, ih h.2⟩
        have := h.1 _ (mem_behR.1 hy)
        rw [List.cons_lt_cons_iff] at this
        rcases this with h1 | h1
        · exact absurd h1 (by omega)
        · exact h1.2
      · exact ih h.2
theorem behP_rising {p : List Int} : ∀ {w : List (List Int)}, w.Pairwise (· < ·) → (behP w p).Pairwise (· < ·) := by
  induction p with
  | nil => exact fun h => h
  | cons r p ih => exact fun h => ih (beh_rising h r)
theorem hdsG_rising {l : List (List Int)} : l.Pairwise (· < ·) → (∀ p, (hdsG p l).Pairwise (· < ·)) ∧ ∀ a, (∀ b t, (b :: t) ∈ l → a ≤ b) → ∀ r ∈ hdsG (some a) l, a < r := by
  induction l with
  | nil => exact fun _ => ⟨fun _ => List.Pairwise.nil, fun a _ r hr => by simp [hdsG] at hr⟩
  | cons x l ih =>
    intro h
    rw [List.pairwise_cons] at h
    obtain ⟨i1, i2⟩ := ih h.2
    cases x with
    | nil => exact ⟨i1, fun a ha => i2 a (fun b t hb => ha b t (by simp [hb]))⟩
    | cons c u =>
      have hc : ∀ b t, (b :: t) ∈ l → c ≤ b := fun b t hb => by
        have := h.1 _ hb
        rw [List.cons_lt_cons_iff] at this
        omega
      refine ⟨fun p => ?_, fun a ha r hr => ?_⟩
      · simp only [hdsG]
        split
        · exact i1 p
        · rw [List.pairwise_cons]
          exact ⟨i2 c hc, i1 _⟩
      · have hac := ha c u (by simp)
        simp only [hdsG] at hr
        split at hr
        · rename_i e
          exact i2 a (fun b t hb => ha b t (by simp [hb])) r hr
        · rename_i e
          have hne : a ≠ c := fun e' => e (by rw [e'])
          rcases List.mem_cons.1 hr with rfl | hr
          · omega
          · have := i2 c hc r hr
            omega
theorem hdsR_rising {l : List (List Int)} (h : l.Pairwise (· < ·)) : (hdsR l).Pairwise (· < ·) := (hdsG_rising h).1 none
theorem staQ_rising {w x : List (List Int)} (h : w.Pairwise (· < ·)) (hx : x ∈ staQ w) : x.Pairwise (· < ·) := by
  obtain ⟨p, _, rfl⟩ := staQ_from hx
  exact behP_rising h
theorem idxOf_inj' {β : Type} [BEq β] [LawfulBEq β] {l : List β} {x y : β} (hx : x ∈ l) (h : l.idxOf x = l.idxOf y) : x = y := by
  have h1 := List.idxOf_lt_length_of_mem hx
  have e1 := List.getElem_idxOf h1
  have h2 := h ▸ h1
  have e2 := List.getElem_idxOf h2
  rw [← e1, ← e2]
  congr 1
/-- No two states have the same edges and ends. -/
theorem staQ_least {w x y : List (List Int)} (h : w.Pairwise (· < ·)) (hx : x ∈ staQ w) (hy : y ∈ staQ w) (he : ([] ∈ x ↔ [] ∈ y)) (ho : (stF (staQ w) x).2.2 = (stF (staQ w) y).2.2) : x = y := by
  refine rising_ext (staQ_rising h hx) (staQ_rising h hy) (fun z => ?_)
  have hh : hdsR x = hdsR y := by
    have := congrArg (List.map Prod.fst) ho
    simpa [stF, Function.comp_def] using this
  have hb : ∀ r ∈ hdsR x, behR x r = behR y r := fun r hr => by
    simp only [stF] at ho
    rw [← hh] at ho
    have := List.map_inj_left.1 ho r hr
    exact idxOf_inj' (staQ_closed hx hr) (Prod.mk.inj this).2
  cases z with
  | nil => exact he
  | cons r t =>
    constructor
    · intro hz
      exact mem_behR.1 (by rw [← hb r (mem_hdsR.2 ⟨t, hz⟩)]; exact mem_behR.2 hz)
    · intro hz
      exact mem_behR.1 (by rw [hb r (by rw [hh]; exact mem_hdsR.2 ⟨t, hz⟩)]; exact mem_behR.2 hz)
theorem behP_lt {α : Type} [DecidableEq α] {w : List (List α)} {p : List α} (hp : p ≠ []) (h : behP w p ≠ []) : ltrs (behP w p) < ltrs w := by
  have key : ∀ (p : List α) (w : List (List α)), behP w p ≠ [] → ltrs (behP w p) + p.length ≤ ltrs w := by
    intro p
    induction p with
    | nil => intro w _; exact Nat.le_refl _
    | cons r p ih =>
      intro w hw
      have h1 := ih (behR w r) hw
      have h2 := ltrs_behR w r
      have h3 : 0 < (behR w r).length := by
        obtain ⟨t, ht⟩ := behP_ne.1 hw
        exact List.length_pos_of_mem (mem_behR.2 (by simpa using ht))
      show ltrs (behP (behR w r) p) + (p.length + 1) ≤ ltrs w
      omega
  have := key p w h
  have := List.length_pos_iff.2 hp
  omega
/-- An edge leads to no first state. -/
theorem staQ_on {α : Type} [DecidableEq α] {w x : List (List α)} {r : α} (hx : x ∈ staQ w) (hr : r ∈ hdsR x) : 0 < (staQ w).idxOf (behR x r) ∧ (staQ w).idxOf (behR x r) < (staQ w).length := by
  refine ⟨?_, List.idxOf_lt_length_of_mem (staQ_closed hx hr)⟩
  apply Nat.pos_of_ne_zero
  intro e
  have e2 : behR x r = w := by
    have h1 := List.idxOf_lt_length_of_mem (staQ_closed hx hr)
    have h2 := List.getElem_idxOf h1
    have h3 := staQ_zero w
    rw [← e, List.getElem?_eq_getElem h1, h2] at h3
    exact Option.some.inj h3
  obtain ⟨p, _, rfl⟩ := staQ_from hx
  have hb := behR_pos hr
  rw [← behP_snoc] at hb e2
  have := behP_lt (w := w) (p := p ++ [r]) (by simp) (by intro e; rw [e] at hb; simp at hb)
  rw [e2] at this
  omega
/-- Each state but the first is led to. -/
theorem staQ_led {α : Type} [DecidableEq α] {w x : List (List α)} (hx : x ∈ staQ w) (hne : x ≠ w) : ∃ y r, y ∈ staQ w ∧ r ∈ hdsR y ∧ behR y r = x := by
  obtain ⟨p, hp, rfl⟩ := staQ_from hx
  rcases hp with rfl | hp
  · exact absurd rfl hne
  have hp0 : p ≠ [] := by rintro rfl; exact hne rfl
  obtain ⟨s, r, rfl⟩ : ∃ s r, p = s ++ [r] := ⟨p.dropLast, p.getLast hp0, (List.dropLast_concat_getLast hp0).symm⟩
  obtain ⟨t, ht⟩ := behP_ne.1 hp
  rw [List.append_assoc] at ht
  exact ⟨behP w s, r, staQ_beh s (behP_ne.2 ⟨_, ht⟩), mem_hdsR.2 ⟨t, mem_behP.2 ht⟩, (behP_snoc w s r).symm⟩
/-- Where a rune leads from a state. -/
def nxtS {α : Type} [DecidableEq α] (Q : List (List (List α))) (i : Nat) (r : α) : Option Nat :=
  Q[i]?.bind fun x => if r ∈ hdsR x then some (Q.idxOf (behR x r)) else none
def wlkS {α : Type} [DecidableEq α] (Q : List (List (List α))) (p : List α) : Option Nat := p.foldl (fun o r => o.bind fun i => nxtS Q i r) (some 0)
theorem getElem?_idxOf' {β : Type} [BEq β] [LawfulBEq β] {l : List β} {x : β} (hx : x ∈ l) : l[l.idxOf x]? = some x := by
  have h1 := List.idxOf_lt_length_of_mem hx
  rw [List.getElem?_eq_getElem h1, List.getElem_idxOf h1]
theorem hdsR_behP {α : Type} [DecidableEq α] {w : List (List α)} {p : List α} {r : α} : r ∈ hdsR (behP w p) ↔ behP w (p ++ [r]) ≠ [] := by
  rw [mem_hdsR, behP_ne]
  exact ⟨fun ⟨t, ht⟩ => ⟨t, by have := mem_behP.1 ht; simpa using this⟩, fun ⟨t, ht⟩ => ⟨t, mem_behP.2 (by simpa using ht)⟩⟩
theorem behP_nil_mono {α : Type} [DecidableEq α] {w : List (List α)} (p s : List α) (h : behP w p = []) : behP w (p ++ s) = [] := by
  rw [behP, List.foldl_append]
  show List.foldl behR (behP w p) s = []
  rw [h]
  clear h
  induction s with
  | nil => rfl
  | cons a s ih => exact ih
/-- Going on by runes: just beginnings of words go, each to its own state. -/
theorem wlkS_is {α : Type} [DecidableEq α] {w : List (List α)} (p : List α) : wlkS (staQ w) p = if p = [] ∨ behP w p ≠ [] then some ((staQ w).idxOf (behP w p)) else none := by
  have key : ∀ (s p : List α), (p = [] ∨ behP w p ≠ []) → s.foldl (fun o r => o.bind fun i => nxtS (staQ w) i r) (some ((staQ w).idxOf (behP w p))) = if p ++ s = [] ∨ behP w (p ++ s) ≠ [] then some ((staQ w).idxOf (behP w (p ++ s))) else none := by
    intro s
    induction s with
    | nil => intro p hp; rw [List.append_nil, if_pos hp]; rfl
    | cons r s ih =>
      intro p hp
      have hm : behP w p ∈ staQ w := by
        rcases hp with rfl | hp
        · exact staQ_mem w
        · exact staQ_beh p hp
      have e : p ++ r :: s = (p ++ [r]) ++ s := by simp
      simp only [List.foldl_cons, Option.bind_some]
      rw [nxtS, getElem?_idxOf' hm, Option.bind_some, e]
      by_cases hr : r ∈ hdsR (behP w p)
      · rw [if_pos hr, ← behP_snoc]
        exact ih (p ++ [r]) (.inr (hdsR_behP.1 hr))
      · have h1 : behP w (p ++ [r]) = [] := Classical.byContradiction fun h => hr (hdsR_behP.2 h)
        rw [if_neg hr, if_neg (by
          rintro (h | h)
          · simp at h
          · exact h (behP_nil_mono _ _ h1))]
        clear ih
        induction s with
        | nil => rfl
        | cons a s ih => exact ih (by simp)
  have h0 := key p [] (.inl rfl)
  have e0 : (staQ w).idxOf (behP w []) = 0 := by
    show (staQ w).idxOf w = 0
    have h1 := getElem?_idxOf' (staQ_mem w)
    have h2 := staQ_zero w
    have h3 := staQ_nodup w
    exact (List.getElem?_inj (List.idxOf_lt_length_of_mem (staQ_mem w)) h3).1 (h1.trans h2.symm)
  rw [e0, List.nil_append] at h0
  exact h0
/-- A state of nothing is the first. -/
theorem staQ_nil {α : Type} [DecidableEq α] {w : List (List α)} (hx : [] ∈ staQ w) : w = [] := by
  obtain ⟨p, hp, e⟩ := staQ_from hx
  rcases hp with rfl | hp
  · exact e.symm
  · exact absurd e.symm hp
/-- One word more: no more states than it has letters, and one, beyond those that there were. -/
theorem staQ_word {w m : List (List Int)} {x : List Int} (hw : w.Pairwise (· < ·)) (hm : m.Pairwise (· < ·)) (h : ∀ y, y ∈ m ↔ y ∈ w ∨ y = x) : (staQ m).length ≤ 2 * (staQ w).length + x.length := by
  have h1 := staQ_more (w := w) (m := m) (x := x) (fun p hp => by
    refine rising_ext (behP_rising hm) (behP_rising hw) (fun z => ?_)
    rw [mem_behP, mem_behP, h]
    exact ⟨fun hz => hz.resolve_right (hp z), .inl⟩)
  have h2 := staQ_len w
  omega
/-- The runes that rests begin with, told one by one. -/
theorem hdsG_snoc (l : List (List α)) (x : List α) : ∀ p : Option α, hdsG p (l ++ [x]) = match x with | [] => hdsG p l | a :: _ => if (hdsG p l).getLast?.or p = some a then hdsG p l else hdsG p l ++ [a] := by
  induction l with
  | nil =>
    intro p
    cases x with
    | nil => rfl
    | cons a t => by_cases hp : p = some a <;> simp [hdsG, hp]
  | cons y l ih =>
    intro p
    cases y with
    | nil => exact ih p
    | cons b u =>
      simp only [List.cons_append, hdsG]
      split
      · exact ih p
      · rw [ih (some b)]
        cases x with
        | nil => rfl
        | cons a t =>
          have e : ((b :: hdsG (some b) l).getLast?.or p) = (hdsG (some b) l).getLast?.or (some b) := by
            rw [List.getLast?_cons]
            cases (hdsG (some b) l).getLast? <;> simp
          simp only [e]
          split <;> simp
theorem hdsR_snoc (l : List (List α)) (a : α) (t : List α) : hdsR (l ++ [a :: t]) = if (hdsR l).getLast? = some a then hdsR l else hdsR l ++ [a] := by
  have := hdsG_snoc l (a :: t) none
  dsimp only at this
  by_cases h : (hdsG none l).getLast? = some a
  · rw [if_pos (by simpa using h)] at this
    rw [if_pos (show (hdsR l).getLast? = some a from h)]
    exact this
  · rw [if_neg (by simpa using h)] at this
    rw [if_neg (show ¬ (hdsR l).getLast? = some a from h)]
    exact this
theorem hdsR_snoc_nil (l : List (List α)) : hdsR (l ++ [[]]) = hdsR l := hdsG_snoc l [] none
theorem hdsR_len (l : List (List α)) : (hdsR l).length ≤ l.length := by
  have key : ∀ (l : List (List α)) (p : Option α), (hdsG p l).length ≤ l.length := by
    intro l
    induction l with
    | nil => intro p; simp [hdsG]
    | cons x l ih =>
      intro p
      cases x with
      | nil => have := ih p; simp only [hdsG, List.length_cons]; omega
      | cons a t =>
        simp only [hdsG]
        split
        · have := ih p; simp only [List.length_cons]; omega
        · have := ih (some a); simp only [List.length_cons]; omega
  exact key l none
end
end Go.Proofs.YtljaibhhkjapmaaDoor

