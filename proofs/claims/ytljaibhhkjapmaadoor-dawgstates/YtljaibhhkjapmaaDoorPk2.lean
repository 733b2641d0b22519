/- Texts that several proofs of this seat share, one behind the other: KBuild KLaid Base. -/
import Derived.Test.YtljaibhhkjapmaaDoorPk1
import Derived.WalkKit
import Derived.ProofKit
import Derived.Below
import Derived.Deep.QuietTactic
import Derived.BigQuiet
import Derived.Deep.LoopGhost
import Derived.Deep.Draws
import Derived.Lib.Hide
import Derived.WalkLawsBesides
import Derived.WalkSpells
/- Layer 10, the code's own way, plain: frozen states and their rests, tails, freezing and opening, what is met. -/
namespace Go.Proofs.YtljaibhhkjapmaaDoor
set_option linter.unusedVariables false
set_option linter.unusedSimpArgs false

/-- A tail: what is without the last edge, its rune, where it leads. -/
abbrev Tl := Nat × Int × Nat
/-- A frozen state: its tail, how many rests, whether words end. -/
abbrev Fz := Tl × Nat × Bool
abbrev Rst := List (List Int)
def rq (R : List Rst) (n : Nat) : Rst := R.getD n []
def consR (r : Int) (z : Rst) : Rst := z.map (fun t => r :: t)
/-- How many of some rests stand ahead of those that go on by a rune. -/
def ahdR : Rst → Int → Nat
  | [], _ => 0
  | [] :: l, r => ahdR l r + 1
  | (a :: _) :: l, r => if a < r then ahdR l r + 1 else ahdR l r
/-- All heads stand ahead of a rune. -/
def HdLt (y : Rst) (r : Int) : Prop := ∀ a u, (a :: u) ∈ y → a < r

theorem rq_pre {R R' : List Rst} (h : R <+: R') {n : Nat} (hn : n < R.length) : rq R' n = rq R n := by
  obtain ⟨t, rfl⟩ := h
  simp only [rq, List.getD_eq_getElem?_getD, List.getElem?_append_left hn]
theorem rq_mem {R : List Rst} {n : Nat} (hn : n < R.length) : rq R n ∈ R := by
  simp only [rq, List.getD_eq_getElem?_getD, List.getElem?_eq_getElem hn, Option.getD_some]
  exact List.getElem_mem hn
theorem rq_inj {R : List Rst} (h : R.Nodup) {m n : Nat} (hm : m < R.length) (hn : n < R.length) (e : rq R m = rq R n) : m = n := by
  have h1 : R[m]? = R[n]? := by
    simp only [rq, List.getD_eq_getElem?_getD, List.getElem?_eq_getElem hm, List.getElem?_eq_getElem hn, Option.getD_some] at e ⊢
    rw [e]
  exact (List.getElem?_inj hm h).1 h1
theorem consR_len (r : Int) (z : Rst) : (consR r z).length = z.length := List.length_map _
theorem mem_consR {r a : Int} {z : Rst} {u : List Int} (h : (a :: u) ∈ consR r z) : a = r := by
  obtain ⟨t, _, e⟩ := List.mem_map.1 h
  cases e; rfl
theorem nil_consR {r : Int} {z : Rst} : [] ∉ consR r z := by
  intro h
  obtain ⟨t, _, e⟩ := List.mem_map.1 h
  cases e
theorem behR_none {y : Rst} {r : Int} (h : ∀ u, (r :: u) ∉ y) : behR y r = [] := by
  rw [List.eq_nil_iff_forall_not_mem]
  exact fun t ht => h t (mem_behR.1 ht)
theorem behR_consR (r : Int) (z : Rst) : behR (consR r z) r = z := by
  induction z with
  | nil => rfl
  | cons t z ih =>
    show (if r = r then t :: behR (consR r z) r else behR (consR r z) r) = _
    rw [if_pos rfl, ih]
theorem behR_cat {y z : Rst} {r : Int} (h : HdLt y r) : behR (y ++ consR r z) r = z := by
  rw [behR_append, behR_none (fun u hu => by have := h r u hu; omega), behR_consR, List.nil_append]
theorem behR_cat_ne {y z : Rst} {r a : Int} (h : a ≠ r) : behR (y ++ consR r z) a = behR y a := by
  rw [behR_append, behR_none (y := consR r z) (fun u hu => h (mem_consR hu)), List.append_nil]
theorem consR_snoc (r : Int) (z : Rst) (t : List Int) : consR r (z ++ [t]) = consR r z ++ [r :: t] := by simp [consR]
theorem hdsR_cat {y : Rst} {r : Int} (h : HdLt y r) {z : Rst} (hz : z ≠ []) : hdsR (y ++ consR r z) = hdsR y ++ [r] := by
  have key : ∀ (n : Nat) (z : Rst), z.length = n + 1 → hdsR (y ++ consR r z) = hdsR y ++ [r] := by
    intro n
    induction n with
    | zero =>
      intro z hz
      obtain ⟨t, rfl⟩ : ∃ t, z = [t] := List.length_eq_one_iff.1 hz
      show hdsR (y ++ [r :: t]) = _
      rw [hdsR_snoc, if_neg]
      intro hl
      obtain ⟨u, hu⟩ := mem_hdsR.1 (List.mem_of_getLast? hl)
      have := h r u hu
      omega
    | succ n ih =>
      intro z hz
      have hne : z ≠ [] := by intro e; rw [e] at hz; simp at hz
      obtain ⟨z', t, rfl⟩ : ∃ z' t, z = z' ++ [t] := ⟨z.dropLast, z.getLast hne, (List.dropLast_concat_getLast hne).symm⟩
      rw [consR_snoc, ← List.append_assoc, hdsR_snoc, ih z' (by simpa using hz), if_pos (by simp)]
  exact key (z.length - 1) z (by have := List.length_pos_iff.2 hz; omega)
theorem ahdR_append (y z : Rst) (r : Int) : ahdR (y ++ z) r = ahdR y r + ahdR z r := by
  induction y with
  | nil => simp [ahdR]
  | cons x y ih =>
    cases x with
    | nil => simp only [List.cons_append, ahdR, ih]; omega
    | cons a t => simp only [List.cons_append, ahdR, ih]; split <;> omega
theorem ahdR_consR {r a : Int} (z : Rst) (h : ¬ r < a) : ahdR (consR r z) a = 0 := by
  induction z with
  | nil => rfl
  | cons t z ih =>
    show (if r < a then _ else ahdR (consR r z) a) = 0
    rw [if_neg h, ih]
theorem ahdR_all {y : Rst} {r : Int} (h : HdLt y r) : ahdR y r = y.length := by
  induction y with
  | nil => rfl
  | cons x y ih =>
    have := ih (fun a u hu => h a u (by simp [hu]))
    cases x with
    | nil => simp only [ahdR, this, List.length_cons]
    | cons a t => simp only [ahdR, if_pos (h a t (by simp)), this, List.length_cons]
theorem ahdR_cat {y : Rst} {r : Int} (h : HdLt y r) (z : Rst) : ahdR (y ++ consR r z) r = y.length := by
  rw [ahdR_append, ahdR_all h, ahdR_consR z (by omega), Nat.add_zero]
theorem ahdR_cat_lt {y z : Rst} {r a : Int} (h : a < r) : ahdR (y ++ consR r z) a = ahdR y a := by
  rw [ahdR_append, ahdR_consR z (by omega), Nat.add_zero]

/-- What lies frozen, with the rests of each. -/
structure FzOk (M : Nat) (F : List Fz) (R : List Rst) : Prop where
  len : R.length = F.length
  two : 2 ≤ F.length
  f0 : F[0]? = some ((0, 0, 0), 0, false)
  f1 : F[1]? = some ((0, 0, 0), 1, true)
  r0 : rq R 0 = []
  r1 : rq R 1 = [[]]
  nd : R.Nodup
  cnt : ∀ (n : Nat) (f : Fz), F[n]? = some f → f.2.1 = (rq R n).length ∧ f.2.2 = decide ([] ∈ rq R n)
  tl : ∀ (n : Nat) (f : Fz), 2 ≤ n → F[n]? = some f → f.1.1 < n ∧ f.1.2.2 < n ∧ 0 < f.1.2.2 ∧ HdLt (rq R f.1.1) f.1.2.1 ∧ rq R n = rq R f.1.1 ++ consR f.1.2.1 (rq R f.1.2.2)
  most : ∀ n, (rq R n).length ≤ M
def fz0 : List Fz := [((0, 0, 0), 0, false), ((0, 0, 0), 1, true)]
theorem FzOk.start {M : Nat} (hM : 1 ≤ M) : FzOk M fz0 [[], [[]]] := by
  refine ⟨rfl, Nat.le_refl _, rfl, rfl, rfl, rfl, by decide, fun n f h => ?_, fun n f hn h => ?_, fun n => ?_⟩
  · match n, h with
    | 0, h => cases h; exact ⟨rfl, rfl⟩
    | 1, h => cases h; exact ⟨rfl, rfl⟩
    | n + 2, h => cases h
  · match n, hn, h with
    | n + 2, _, h => cases h
  · match n with
    | 0 => exact Nat.zero_le _
    | 1 => exact hM
    | n + 2 => exact Nat.zero_le _
theorem FzOk.pos {M : Nat} {F : List Fz} {R : List Rst} (h : FzOk M F R) {n : Nat} (h0 : 0 < n) (hn : n < F.length) : rq R n ≠ [] := by
  intro e
  have := rq_inj h.nd (m := n) (n := 0) (by rw [h.len]; exact hn) (by rw [h.len]; exact Nat.lt_of_lt_of_le (by decide) h.two) (by rw [e, h.r0])
  omega
/-- A tail that lies nowhere is laid: a new state, of new rests. -/
theorem FzOk.lay {M : Nat} {F : List Fz} {R : List Rst} (h : FzOk M F R) {b t : Nat} {r : Int} (hb : b < F.length) (ht : t < F.length) (h0 : 0 < t) (hh : HdLt (rq R b) r) (hnew : ∀ (n : Nat) (f : Fz), 2 ≤ n → F[n]? = some f → f.1 ≠ (b, r, t)) (hM : (rq R b).length + (rq R t).length ≤ M)
    {fb ft : Fz} (hfb : F[b]? = some fb) (hft : F[t]? = some ft) :
    FzOk M (F ++ [((b, r, t), fb.2.1 + ft.2.1, fb.2.2)]) (R ++ [rq R b ++ consR r (rq R t)]) ∧ rq (R ++ [rq R b ++ consR r (rq R t)]) F.length = rq R b ++ consR r (rq R t) := by
  have hz := h.pos h0 ht
  have hl := h.len
  have htw := h.two
  obtain ⟨x, hx⟩ : ∃ x, x = rq R b ++ consR r (rq R t) := ⟨_, rfl⟩
  have hpre : R <+: R ++ [x] := List.prefix_append _ _
  have hold : ∀ n, n < F.length → rq (R ++ [x]) n = rq R n := fun n hn => rq_pre hpre (by omega)
  have hnewq : rq (R ++ [x]) F.length = x := by
    simp only [rq, List.getD_eq_getElem?_getD, ← hl]
    simp
  rw [← hx]
  refine ⟨⟨by simp [hl], by simp; omega, ?_, ?_, ?_, ?_, ?_, fun n f hf => ?_, fun n f hn hf => ?_, fun n => ?_⟩, hnewq⟩
  · rw [List.getElem?_append_left (by omega)]; exact h.f0
  · rw [List.getElem?_append_left (by omega)]; exact h.f1
  · rw [hold 0 (by omega)]; exact h.r0
  · rw [hold 1 (by omega)]; exact h.r1
  · rw [List.nodup_append]
    refine ⟨h.nd, by simp, ?_⟩
    intro a ha c hc
    simp only [List.mem_singleton] at hc
    subst hc
    rintro rfl
    obtain ⟨m, hm, em⟩ := List.getElem_of_mem ha
    have em2 : rq R m = a := by
      simp only [rq, List.getD_eq_getElem?_getD, List.getElem?_eq_getElem hm, Option.getD_some]; exact em
    have hdx : hdsR a = hdsR (rq R b) ++ [r] := by rw [hx]; exact hdsR_cat hh hz
    by_cases h2 : 2 ≤ m
    · obtain ⟨f, hf⟩ : ∃ f, F[m]? = some f := ⟨_, List.getElem?_eq_getElem (by omega)⟩
      obtain ⟨k1, k2, k3, k4, k5⟩ := h.tl m f h2 hf
      have hz2 := h.pos k3 (by omega)
      rw [em2] at k5
      have hd2 : hdsR a = hdsR (rq R f.1.1) ++ [f.1.2.1] := by rw [k5]; exact hdsR_cat k4 hz2
      have er : f.1.2.1 = r := by
        have := congrArg List.getLast? (hd2.symm.trans hdx)
        simpa using this
      rw [er] at k4 k5
      have et : rq R f.1.2.2 = rq R t := by
        have e1 := behR_cat (z := rq R f.1.2.2) k4
        have e2 := behR_cat (z := rq R t) hh
        rw [← k5] at e1
        rw [← hx] at e2
        exact e1.symm.trans e2
      have et2 := rq_inj h.nd (by omega) (by omega) et
      rw [et, hx] at k5
      have eb := rq_inj h.nd (m := b) (n := f.1.1) (by omega) (by omega) (List.append_cancel_right k5)
      refine hnew m f h2 hf ?_
      obtain ⟨⟨f1, f2, f3⟩, f4⟩ := f
      simp only at er et2 eb
      rw [er, et2, eb]
    · have : hdsR a = [] := by
        have hm' : m = 0 ∨ m = 1 := by omega
        rcases hm' with rfl | rfl
        · rw [← em2, h.r0]; rfl
        · rw [← em2, h.r1]; rfl
      rw [this] at hdx
      simp at hdx
  · by_cases hn : n < F.length
    · rw [List.getElem?_append_left hn] at hf
      rw [hold n hn]
      exact h.cnt n f hf
    · have hn2 := (List.getElem?_eq_some_iff.1 hf).1
      simp only [List.length_append, List.length_cons, List.length_nil] at hn2
      obtain rfl : n = F.length := by omega
      rw [List.getElem?_append_right (Nat.le_refl _), Nat.sub_self] at hf
      obtain rfl := Option.some.inj hf
      rw [hnewq, hx, List.length_append, consR_len, (h.cnt b fb hfb).1, (h.cnt t ft hft).1]
      refine ⟨rfl, ?_⟩
      show fb.2.2 = _
      rw [(h.cnt b fb hfb).2]
      simp only [List.mem_append, nil_consR, or_false]
  · by_cases hn' : n < F.length
    · rw [List.getElem?_append_left hn'] at hf
      obtain ⟨k1, k2, k3, k4, k5⟩ := h.tl n f hn hf
      rw [hold n hn', hold _ (by omega), hold _ (by omega)]
      exact ⟨k1, k2, k3, k4, k5⟩
    · have hn2 := (List.getElem?_eq_some_iff.1 hf).1
      simp only [List.length_append, List.length_cons, List.length_nil] at hn2
      obtain rfl : n = F.length := by omega
      rw [List.getElem?_append_right (Nat.le_refl _), Nat.sub_self] at hf
      obtain rfl := Option.some.inj hf
      simp only
      rw [hnewq, hold _ hb, hold _ ht]
      exact ⟨hb, ht, h0, hh, hx⟩
  · by_cases hn : n < F.length
    · rw [hold n hn]; exact h.most n
    · by_cases hn2 : n = F.length
      · rw [hn2, hnewq, hx, List.length_append, consR_len]; exact hM
      · have : rq (R ++ [x]) n = [] := by
          simp only [rq, List.getD_eq_getElem?_getD]
          rw [List.getElem?_eq_none (by simp; omega)]
          rfl
        rw [this]
        exact Nat.zero_le _

/-- The tails of a frozen state, of that without its last edge, and so on. -/
def tlsF (F : List Fz) : Nat → Nat → List Tl
  | 0, _ => []
  | k + 1, n => if n ≤ 1 then [] else match F[n]? with
    | some f => f.1 :: tlsF F k f.1.1
    | none => []
def tls (F : List Fz) (n : Nat) : List Tl := tlsF F n n
theorem tlsF_more {M : Nat} {F : List Fz} {R : List Rst} (h : FzOk M F R) : ∀ (k n j : Nat), n ≤ k → n ≤ j → tlsF F k n = tlsF F j n := by
  intro k
  induction k with
  | zero =>
    intro n j hn _
    obtain rfl : n = 0 := by omega
    cases j with
    | zero => rfl
    | succ j => rw [tlsF, tlsF, if_pos (by omega)]
  | succ k ih =>
    intro n j hn hj
    cases j with
    | zero =>
      obtain rfl : n = 0 := by omega
      rw [tlsF, tlsF, if_pos (by omega)]
    | succ j =>
      rw [tlsF, tlsF]
      by_cases h1 : n ≤ 1
      · rw [if_pos h1, if_pos h1]
      · rw [if_neg h1, if_neg h1]
        cases hf : F[n]? with
        | none => rfl
        | some f =>
          have := (h.tl n f (by omega) hf).1
          simp only
          rw [ih f.1.1 j (by omega) (by omega)]
theorem tls_less {F : List Fz} {n : Nat} (h : n ≤ 1) : tls F n = [] := by
  unfold tls
  cases n with
  | zero => rfl
  | succ n => rw [tlsF, if_pos h]
theorem tls_step {M : Nat} {F : List Fz} {R : List Rst} (h : FzOk M F R) {n : Nat} {f : Fz} (h2 : 2 ≤ n) (hf : F[n]? = some f) : tls F n = f.1 :: tls F f.1.1 := by
  unfold tls
  obtain ⟨k, rfl⟩ : ∃ k, n = k + 1 := ⟨n - 1, by omega⟩
  rw [tlsF, if_neg (by omega), hf]
  have := (h.tl _ f h2 hf).1
  simp only
  rw [tlsF_more h k f.1.1 f.1.1 (by omega) (Nat.le_refl _)]
/-- Tails are edges, the last one first. -/
theorem tls_spec {M : Nat} {F : List Fz} {R : List Rst} (h : FzOk M F R) : ∀ (n : Nat), n < F.length →
    (tls F n).reverse.map (fun t => (t.2.1, rq R t.2.2, (rq R t.1).length)) = (hdsR (rq R n)).map (fun r => (r, behR (rq R n) r, ahdR (rq R n) r)) ∧ ∀ t ∈ tls F n, t.1 < n ∧ 0 < t.2.2 ∧ t.2.2 < n := by
  intro n
  induction n using Nat.strongRecOn with
  | ind n ih =>
    intro hn
    by_cases h1 : n ≤ 1
    · rw [tls_less h1]
      refine ⟨?_, by simp⟩
      have hm' : n = 0 ∨ n = 1 := by omega
      rcases hm' with rfl | rfl
      · rw [h.r0]; rfl
      · rw [h.r1]; rfl
    · obtain ⟨f, hf⟩ : ∃ f, F[n]? = some f := ⟨_, List.getElem?_eq_getElem hn⟩
      obtain ⟨k1, k2, k3, k4, k5⟩ := h.tl n f (by omega) hf
      have hz := h.pos k3 (by omega)
      obtain ⟨i1, i2⟩ := ih f.1.1 k1 (by omega)
      rw [tls_step h (by omega) hf]
      refine ⟨?_, fun t ht => ?_⟩
      · rw [List.reverse_cons, List.map_append, i1, k5, hdsR_cat k4 hz, List.map_append]
        congr 1
        · refine List.map_congr_left (fun r hr => ?_)
          obtain ⟨u, hu⟩ := mem_hdsR.1 hr
          have hlt := k4 r u hu
          rw [behR_cat_ne (by omega), ahdR_cat_lt hlt]
        · simp only [List.map_cons, List.map_nil, behR_cat k4, ahdR_cat k4]
      · rcases List.mem_cons.1 ht with rfl | ht
        · exact ⟨k1, k3, k2⟩
        · obtain ⟨a, b, c⟩ := i2 t ht
          exact ⟨by omega, b, by omega⟩

/-! The last word's beginnings. -/
/-- What is told of rests by a way of open states: each goes on by its rune, behind what is frozen of it. -/
def opn (R : List Rst) (P : List (Nat × Int)) (q : Rst) : Rst := P.foldr (fun p q => rq R p.1 ++ consR p.2 q) q
theorem opn_snoc (R : List Rst) (P : List (Nat × Int)) (p : Nat × Int) (q : Rst) : opn R (P ++ [p]) q = opn R P (rq R p.1 ++ consR p.2 q) := by
  unfold opn; rw [List.foldr_append]; rfl
theorem opn_len (R : List Rst) (q : Rst) : ∀ P : List (Nat × Int), q.length ≤ (opn R P q).length := by
  intro P
  induction P with
  | nil => exact Nat.le_refl _
  | cons p P ih =>
    show _ ≤ (rq R p.1 ++ consR p.2 (opn R P q)).length
    rw [List.length_append, consR_len]
    omega
theorem opn_pre {R R' : List Rst} (h : R <+: R') (q : Rst) : ∀ P : List (Nat × Int), (∀ p ∈ P, p.1 < R.length) → opn R' P q = opn R P q := by
  intro P
  induction P with
  | nil => exact fun _ => rfl
  | cons p P ih =>
    intro hp
    show rq R' p.1 ++ consR p.2 (opn R' P q) = rq R p.1 ++ consR p.2 (opn R P q)
    rw [rq_pre h (hp p (by simp)), ih (fun p hq => hp p (by simp [hq]))]
theorem opn_add (R : List Rst) (x : Rst) (y : List Int) : ∀ P : List (Nat × Int), opn R P (x ++ [y]) = opn R P x ++ [P.map (·.2) ++ y] := by
  intro P
  induction P with
  | nil => rfl
  | cons p P ih =>
    show rq R p.1 ++ consR p.2 (opn R P (x ++ [y])) = _
    rw [ih, consR_snoc, ← List.append_assoc]
    rfl
theorem opn_new {R : List Rst} (h0 : rq R 0 = []) : ∀ v : List Int, opn R (v.map (fun r => (0, r))) [[]] = [v] := by
  intro v
  induction v with
  | nil => rfl
  | cons a v ih =>
    show rq R 0 ++ consR a (opn R (v.map (fun r => (0, r))) [[]]) = _
    rw [ih, h0]
    rfl
/-- One word more: from the state behind a beginning on its runes are open. -/
theorem opn_word {R : List Rst} (h0 : rq R 0 = []) (P : List (Nat × Int)) (s : Nat) (a : Int) (v : List Int) : opn R (P ++ (s, a) :: v.map (fun r => (0, r))) [[]] = opn R P (rq R s) ++ [P.map (·.2) ++ a :: v] := by
  have e : opn R (P ++ (s, a) :: v.map (fun r => (0, r))) [[]] = opn R P (rq R s ++ consR a (opn R (v.map (fun r => (0, r))) [[]])) := by
    unfold opn; rw [List.foldr_append]; rfl
  rw [e, opn_new h0]
  exact opn_add R (rq R s) (a :: v) P

/-- The way of the last word: where its states are frozen so far, and by what it goes on. -/
structure WayOk (F : List Fz) (R : List Rst) (P : List (Nat × Int)) (s : Nat) : Prop where
  lt : ∀ p ∈ P, p.1 < F.length
  hd : ∀ p ∈ P, HdLt (rq R p.1) p.2
  sl : s < F.length
  sp : P ≠ [] → 0 < s
/-- One state is frozen: it is found, or laid. -/
theorem frz_step {M : Nat} {F F' : List Fz} {R R' : List Rst} (hF : FzOk M F R) (hF' : FzOk M F' R') (hl : F.length ≤ F'.length) (hR : R <+: R') {P : List (Nat × Int)} {b s n : Nat} {r : Int} (hW : WayOk F R (P ++ [(b, r)]) s) (hn : n < F'.length) (e : rq R' n = rq R b ++ consR r (rq R s)) :
    WayOk F' R' P n ∧ opn R' P (rq R' n) = opn R (P ++ [(b, r)]) (rq R s) ∧ ∀ a u, (a :: u) ∈ rq R' n → a ≤ r := by
  have hz := hF.pos (hW.sp (by simp)) hW.sl
  have hP : ∀ p ∈ P, p.1 < R.length := fun p hp => by rw [hF.len]; exact hW.lt p (by simp [hp])
  refine ⟨⟨fun p hp => ?_, fun p hp => ?_, hn, fun _ => ?_⟩, ?_, fun a u hu => ?_⟩
  · exact Nat.lt_of_lt_of_le (hW.lt p (by simp [hp])) hl
  · rw [rq_pre hR (hP p hp)]; exact hW.hd p (by simp [hp])
  · refine Nat.pos_of_ne_zero fun e0 => ?_
    rw [e0, hF'.r0] at e
    have := congrArg List.length e
    rw [List.length_append, consR_len] at this
    have := List.length_pos_iff.2 hz
    simp at *
    omega
  · rw [opn_snoc, e, opn_pre hR _ P hP]
  · rw [e] at hu
    rcases List.mem_append.1 hu with hu | hu
    · have := hW.hd (b, r) (by simp) a u hu
      exact Int.le_of_lt this
    · exact Int.le_of_eq (mem_consR hu)
/-- How many runes two words begin with alike. -/
def alk : List Int → List Int → Nat
  | a :: x, b :: y => if a = b then alk x y + 1 else 0
  | _, _ => 0
theorem alk_le : ∀ x y : List Int, alk x y ≤ x.length ∧ alk x y ≤ y.length := by
  intro x
  induction x with
  | nil => intro y; simp [alk]
  | cons a x ih =>
    intro y
    cases y with
    | nil => simp [alk]
    | cons b y => have := ih y; simp only [alk]; split <;> simp <;> omega
theorem alk_take : ∀ x y : List Int, x.take (alk x y) = y.take (alk x y) := by
  intro x
  induction x with
  | nil => intro y; simp [alk]
  | cons a x ih =>
    intro y
    cases y with
    | nil => simp [alk]
    | cons b y => simp only [alk]; split <;> simp_all
/-- Where a later word parts from an earlier one: it goes on, by a greater rune if the earlier one goes on, too. -/
theorem alk_next : ∀ v w : List Int, v < w → ∃ a t, w.drop (alk w v) = a :: t ∧ ∀ r, v[alk w v]? = some r → r < a := by
  intro v
  induction v with
  | nil =>
    intro w h
    cases w with
    | nil => exact absurd h (ll_irrefl _)
    | cons a t => exact ⟨a, t, rfl, fun r hr => by simp at hr⟩
  | cons b v ih =>
    intro w h
    cases w with
    | nil => exact absurd h (by simp)
    | cons a t =>
      rw [List.cons_lt_cons_iff] at h
      by_cases e : a = b
      · subst e
        have h1 : v < t := by
          rcases h with h | h
          · omega
          · exact h.2
        obtain ⟨a', t', h2, h3⟩ := ih t h1
        refine ⟨a', t', ?_, ?_⟩
        · simp only [alk, if_pos]; exact h2
        · simp only [alk, if_pos]; exact h3
      · refine ⟨a, t, by simp only [alk, if_neg e]; rfl, fun r hr => ?_⟩
        simp only [alk, if_neg e] at hr
        rw [List.getElem?_cons_zero] at hr
        obtain rfl := Option.some.inj hr
        rcases h with h | h
        · exact h
        · exact absurd h.1.symm e
/-- A word is opened behind what is frozen down to where it parts from the last one. -/
theorem way_open {M : Nat} {F : List Fz} {R : List Rst} (hF : FzOk M F R) {P : List (Nat × Int)} {s : Nat} (hW : WayOk F R P s) {W : Rst} (hO : opn R P (rq R s) = W) {a : Int} {v : List Int} (hh : HdLt (rq R s) a) :
    WayOk F R (P ++ (s, a) :: v.map (fun r => (0, r))) 1 ∧ opn R (P ++ (s, a) :: v.map (fun r => (0, r))) (rq R 1) = W ++ [P.map (·.2) ++ a :: v] := by
  refine ⟨⟨fun p hp => ?_, fun p hp => ?_, Nat.lt_of_lt_of_le (by decide) hF.two, fun _ => by decide⟩, ?_⟩
  · rcases List.mem_append.1 hp with hp | hp
    · exact hW.lt p hp
    · rcases List.mem_cons.1 hp with rfl | hp
      · exact hW.sl
      · obtain ⟨r, _, rfl⟩ := List.mem_map.1 hp
        show 0 < F.length
        have := hF.two
        omega
  · rcases List.mem_append.1 hp with hp | hp
    · exact hW.hd p hp
    · rcases List.mem_cons.1 hp with rfl | hp
      · exact hh
      · obtain ⟨r, _, rfl⟩ := List.mem_map.1 hp
        show HdLt (rq R 0) r
        rw [hF.r0]
        exact fun a u hu => by cases hu
  · rw [hF.r1, opn_word hF.r0, hO]

/-! What is met. -/
theorem visQ_fuel {α : Type} [DecidableEq α] : ∀ (n m : Nat) (all : List (List (List α))) (q : List (List α)), ltrs q < n → ltrs q < m → visQ n all q = visQ m all q := by
  intro n
  induction n with
  | zero => intro m all q h; omega
  | succ n ih =>
    intro m all q hn hm
    obtain ⟨m, rfl⟩ : ∃ k, m = k + 1 := ⟨m - 1, by omega⟩
    rw [visQ, visQ]
    split
    · rfl
    · have key : ∀ (l : List α) (hl : ∀ r ∈ l, r ∈ hdsR q) (a : List (List (List α))), l.foldl (fun a r => visQ n a (behR q r)) a = l.foldl (fun a r => visQ m a (behR q r)) a := by
        intro l
        induction l with
        | nil => exact fun _ _ => rfl
        | cons r l ih2 =>
          intro hl a
          have := ltrs_lt (hl r (by simp))
          simp only [List.foldl_cons]
          rw [ih m a (behR q r) (by omega) (by omega)]
          exact ih2 (fun r hr => hl r (by simp [hr])) _
      exact key _ (fun r hr => hr) _
/-- What was met, and what is laid up: together all that will be met. -/
structure MetI (F : List Fz) (R : List Rst) (w : Rst) (O S : List Nat) : Prop where
  on : O.Nodup
  ol : ∀ n ∈ O, n < F.length
  sl : ∀ n ∈ S, n < F.length ∧ ltrs (rq R n) ≤ ltrs w
  eq : S.reverse.foldl (fun a n => visQ (ltrs w + 1) a (rq R n)) (O.map (rq R)) = staQ w
theorem MetI.start {M : Nat} {F : List Fz} {R : List Rst} (h : FzOk M F R) {n : Nat} (hn : n < F.length) : MetI F R (rq R n) [] [n] :=
  ⟨List.nodup_nil, by simp, by simp [hn], rfl⟩
theorem mem_map_rq {M : Nat} {F : List Fz} {R : List Rst} (h : FzOk M F R) {O : List Nat} (hO : ∀ n ∈ O, n < F.length) {n : Nat} (hn : n < F.length) : rq R n ∈ O.map (rq R) ↔ n ∈ O := by
  constructor
  · intro hm
    obtain ⟨m, hm, e⟩ := List.mem_map.1 hm
    rw [← rq_inj h.nd (by rw [h.len]; exact hO m hm) (by rw [h.len]; exact hn) e]
    exact hm
  · exact fun hm => List.mem_map.2 ⟨n, hm, rfl⟩
theorem MetI.skip {M : Nat} {F : List Fz} {R : List Rst} (h : FzOk M F R) {w : Rst} {O S : List Nat} {n : Nat} (hI : MetI F R w O (S ++ [n])) (hn : n ∈ O) : MetI F R w O S := by
  refine ⟨hI.on, hI.ol, fun m hm => hI.sl m (by simp [hm]), ?_⟩
  have := hI.eq
  rw [List.reverse_append, List.reverse_cons, List.reverse_nil, List.nil_append, List.cons_append, List.nil_append, List.foldl_cons, visQ, if_pos (List.mem_map.2 ⟨n, hn, rfl⟩)] at this
  exact this
theorem MetI.meet {M : Nat} {F : List Fz} {R : List Rst} (h : FzOk M F R) {w : Rst} {O S : List Nat} {n : Nat} (hI : MetI F R w O (S ++ [n])) (hn : n ∉ O) : MetI F R w (O ++ [n]) (S ++ (tls F n).map (·.2.2)) := by
  obtain ⟨hn1, hn2⟩ := hI.sl n (by simp)
  obtain ⟨t1, t2⟩ := tls_spec h n hn1
  have hch : ((tls F n).map (·.2.2)).reverse.map (rq R) = (hdsR (rq R n)).map (behR (rq R n)) := by
    have := congrArg (List.map (fun x : Int × Rst × Nat => x.2.1)) t1
    rw [List.map_map, List.map_map] at this
    rw [← List.map_reverse, List.map_map]
    exact this
  refine ⟨?_, fun m hm => ?_, fun m hm => ?_, ?_⟩
  · rw [List.nodup_append]
    refine ⟨hI.on, by simp, ?_⟩
    intro a ha b hb
    simp only [List.mem_singleton] at hb
    subst hb
    rintro rfl
    exact hn ha
  · rcases List.mem_append.1 hm with hm | hm
    · exact hI.ol m hm
    · rw [List.mem_singleton] at hm; subst hm; exact hn1
  · rcases List.mem_append.1 hm with hm | hm
    · exact hI.sl m (by simp [hm])
    · obtain ⟨t, ht, rfl⟩ := List.mem_map.1 hm
      obtain ⟨k1, k2, k3⟩ := t2 t ht
      refine ⟨by omega, ?_⟩
      have hm2 : rq R t.2.2 ∈ (hdsR (rq R n)).map (behR (rq R n)) := by
        rw [← hch]
        exact List.mem_map.2 ⟨_, by simpa using ⟨t.1, t.2.1, ht⟩, rfl⟩
      obtain ⟨r, hr, e⟩ := List.mem_map.1 hm2
      rw [← e]
      have := ltrs_lt hr
      omega
  · have h3 := hI.eq
    rw [List.reverse_append, List.reverse_cons, List.reverse_nil, List.nil_append, List.cons_append, List.nil_append, List.foldl_cons, visQ, if_neg (fun hm => hn ((mem_map_rq h hI.ol hn1).1 hm))] at h3
    rw [List.reverse_append, List.foldl_append]
    have e1 : (hdsR (rq R n)).foldl (fun a r => visQ (ltrs w) a (behR (rq R n) r)) (O.map (rq R) ++ [rq R n]) = ((tls F n).map (·.2.2)).reverse.foldl (fun a m => visQ (ltrs w + 1) a (rq R m)) ((O ++ [n]).map (rq R)) := by
      have f1 : ((tls F n).map (·.2.2)).reverse.foldl (fun a m => visQ (ltrs w + 1) a (rq R m)) ((O ++ [n]).map (rq R)) = (((tls F n).map (·.2.2)).reverse.map (rq R)).foldl (fun a q => visQ (ltrs w + 1) a q) ((O ++ [n]).map (rq R)) := by rw [List.foldl_map]
      rw [f1, hch, List.foldl_map, List.map_append]
      have key : ∀ (l : List Int) (hl : ∀ r ∈ l, r ∈ hdsR (rq R n)) (a : List Rst), l.foldl (fun a r => visQ (ltrs w) a (behR (rq R n) r)) a = l.foldl (fun a r => visQ (ltrs w + 1) a (behR (rq R n) r)) a := by
        intro l
        induction l with
        | nil => exact fun _ _ => rfl
        | cons r l ih2 =>
          intro hl a
          have := ltrs_lt (hl r (by simp))
          simp only [List.foldl_cons]
          rw [visQ_fuel (ltrs w) (ltrs w + 1) a (behR (rq R n) r) (by omega) (by omega)]
          exact ih2 (fun r hr => hl r (by simp [hr])) _
      exact key _ (fun r hr => hr) _
    rw [← e1]
    exact h3
theorem MetI.done {F : List Fz} {R : List Rst} {w : Rst} {O : List Nat} (hI : MetI F R w O []) : O.map (rq R) = staQ w := hI.eq
end Go.Proofs.YtljaibhhkjapmaaDoor

/- Layer 10, plain: edges as they are laid, with how many rests stand ahead; places of words, and the word at a place. -/
namespace Go.Proofs.YtljaibhhkjapmaaDoor
set_option linter.unusedVariables false
set_option linter.unusedSimpArgs false

/-- An edge as it is laid: its rune, where it leads, how many rests stand ahead. -/
abbrev Edg := Int × Nat × Nat
/-- A state as it is laid: where its edges stand, whether words end. -/
abbrev StaL := Nat × Nat × Bool
def edE (Q : List Rst) (x : Rst) : List Edg := (hdsR x).map (fun r => (r, Q.idxOf (behR x r), ahdR x r))
def edK (Q : List Rst) (k : Nat) : List Edg := (Q.take k).flatMap (edE Q)
def staL (Q : List Rst) (i : Nat) : StaL := ((edK Q i).length, (edK Q (i + 1)).length, decide ([] ∈ Q.getD i []))
def staK (Q : List Rst) (k : Nat) : List StaL := (List.range k).map (staL Q)
theorem edK_succ {Q : List Rst} {k : Nat} {x : Rst} (h : Q[k]? = some x) : edK Q (k + 1) = edK Q k ++ edE Q x := by
  unfold edK
  rw [List.take_add_one, h]
  simp
theorem edK_zero (Q : List Rst) : edK Q 0 = [] := by simp [edK]
theorem staK_succ (Q : List Rst) (k : Nat) : staK Q (k + 1) = staK Q k ++ [staL Q k] := by simp [staK, List.range_succ]
theorem edK_pre (Q : List Rst) {k m : Nat} (h : k ≤ m) : edK Q k <+: edK Q m := by
  obtain ⟨d, rfl⟩ : ∃ d, m = k + d := ⟨m - k, by omega⟩
  unfold edK
  rw [List.take_add, List.flatMap_append]
  exact List.prefix_append _ _
/-- The edges of a state, out of all. -/
theorem edK_part {Q : List Rst} {i : Nat} {x : Rst} (h : Q[i]? = some x) : ((edK Q Q.length).take (edK Q (i + 1)).length).drop (edK Q i).length = edE Q x := by
  have hi := (List.getElem?_eq_some_iff.1 h).1
  obtain ⟨t, ht⟩ := edK_pre Q (show i + 1 ≤ Q.length by omega)
  rw [← ht, List.take_left, edK_succ h, List.drop_left]
theorem edK_le {Q : List Rst} {i : Nat} (hi : i < Q.length) : (edK Q i).length ≤ (edK Q (i + 1)).length ∧ (edK Q (i + 1)).length ≤ (edK Q Q.length).length :=
  ⟨(edK_pre Q (Nat.le_succ i)).length_le, (edK_pre Q hi).length_le⟩
theorem edE_len (Q : List Rst) (x : Rst) : (edE Q x).length = (hdsR x).length := List.length_map _
theorem edE_most (Q : List Rst) (x : Rst) : (edE Q x).length ≤ x.length := by rw [edE_len]; exact hdsR_len x
theorem edK_most {Q : List Rst} {M : Nat} (h : ∀ x ∈ Q, x.length ≤ M) : ∀ k, (edK Q k).length ≤ k * M := by
  intro k
  induction k with
  | zero => simp [edK]
  | succ k ih =>
    cases e : Q[k]? with
    | none =>
      have : edK Q (k + 1) = edK Q k := by unfold edK; rw [List.take_add_one, e]; simp
      rw [this]
      exact Nat.le_trans ih (Nat.mul_le_mul_right _ (Nat.le_succ k))
    | some x =>
      rw [edK_succ e, List.length_append, Nat.succ_mul]
      have := edE_most Q x
      have := h x (List.mem_of_getElem? e)
      omega
theorem idxOf_map_inj {α β : Type} [BEq α] [LawfulBEq α] [BEq β] [LawfulBEq β] (f : α → β) (x : α) : ∀ l : List α, (∀ a ∈ l, f a = f x → a = x) → (l.map f).idxOf (f x) = l.idxOf x := by
  intro l
  induction l with
  | nil => exact fun _ => rfl
  | cons a l ih =>
    intro h
    rw [List.map_cons, List.idxOf_cons, List.idxOf_cons, ih (fun b hb => h b (by simp [hb]))]
    by_cases e : a = x
    · subst e; simp
    · have e2 : ¬ f a = f x := fun q => e (h a (by simp) q)
      rw [beq_false_of_ne e, beq_false_of_ne e2]
/-- Numbers of frozen states: where each was met, or that it was not. -/
def nums (k : Nat) (O : List Nat) : List Int := (List.range k).map (fun n => if n ∈ O then ((O.idxOf n : Nat) : Int) else -1)
theorem nums_at {k n : Nat} (O : List Nat) (h : n < k) : (nums k O)[n]? = some (if n ∈ O then ((O.idxOf n : Nat) : Int) else -1) := by
  unfold nums; rw [List.getElem?_map, List.getElem?_range h]; rfl
theorem nums_len (k : Nat) (O : List Nat) : (nums k O).length = k := by simp [nums]
theorem nums_nil (k : Nat) : nums k [] = List.replicate k (-1) := by
  unfold nums
  apply List.ext_getElem?
  intro i
  rw [List.getElem?_map, List.getElem?_replicate]
  by_cases h : i < k
  · rw [List.getElem?_range h, if_pos h]; simp
  · rw [List.getElem?_eq_none (by simp; omega), if_neg h]; rfl
theorem nums_snoc {k n : Nat} {O : List Nat} (h : n ∉ O) : nums k (O ++ [n]) = (nums k O).set n (O.length : Int) := by
  apply List.ext_getElem?
  intro i
  by_cases hi : i < k
  · rw [nums_at _ hi]
    by_cases e : n = i
    · subst e
      rw [List.getElem?_set_self (by rw [nums_len]; exact hi), if_pos (by simp), List.idxOf_append, if_neg h]
      simp
    · rw [List.getElem?_set_ne e, nums_at _ hi]
      have e2 : ¬ i = n := fun q => e q.symm
      by_cases hm : i ∈ O
      · rw [if_pos (by simp [hm]), if_pos hm, List.idxOf_append, if_pos hm]
      · rw [if_neg (by simp [hm, e2]), if_neg hm]
  · rw [List.getElem?_eq_none (by rw [nums_len]; omega), List.getElem?_eq_none (by rw [List.length_set, nums_len]; omega)]
/-- The edges of a frozen state that was met, out of its tails. -/
theorem tls_edges {M : Nat} {F : List Fz} {R : List Rst} (h : FzOk M F R) {w : Rst} {O : List Nat} (hO : ∀ n ∈ O, n < F.length) (hQ : O.map (rq R) = staQ w) {n : Nat} (hn : n ∈ O) :
    (tls F n).reverse.map (fun t => (t.2.1, O.idxOf t.2.2, (rq R t.1).length)) = edE (staQ w) (rq R n) ∧ ∀ t ∈ tls F n, t.2.2 ∈ O := by
  obtain ⟨t1, t2⟩ := tls_spec h n (hO n hn)
  have hx : rq R n ∈ staQ w := by rw [← hQ]; exact List.mem_map.2 ⟨n, hn, rfl⟩
  have hnF := hO n hn
  have hto : ∀ t ∈ tls F n, rq R t.2.2 ∈ staQ w := fun t ht => by
    have h3 : (t.2.1, rq R t.2.2, (rq R t.1).length) ∈ (hdsR (rq R n)).map (fun r => (r, behR (rq R n) r, ahdR (rq R n) r)) := by
      rw [← t1]; exact List.mem_map.2 ⟨t, by simpa using ht, rfl⟩
    obtain ⟨r, hr, e⟩ := List.mem_map.1 h3
    have e2 : behR (rq R n) r = rq R t.2.2 := (Prod.mk.inj (Prod.mk.inj e).2).1
    rw [← e2]
    exact staQ_closed hx hr
  refine ⟨?_, fun t ht => ?_⟩
  · have := congrArg (List.map (fun x : Int × Rst × Nat => (x.1, (staQ w).idxOf x.2.1, x.2.2))) t1
    rw [List.map_map, List.map_map] at this
    unfold edE
    rw [show (fun r => (r, (staQ w).idxOf (behR (rq R n) r), ahdR (rq R n) r)) = ((fun x : Int × Rst × Nat => (x.1, (staQ w).idxOf x.2.1, x.2.2)) ∘ fun r => (r, behR (rq R n) r, ahdR (rq R n) r)) from rfl, ← this]
    refine List.map_congr_left (fun t ht => ?_)
    have ht' : t ∈ tls F n := by simpa using ht
    simp only [Function.comp]
    rw [← hQ, idxOf_map_inj (rq R) t.2.2 O]
    intro a ha e
    exact rq_inj h.nd (by rw [h.len]; exact hO a ha) (by rw [h.len]; have := (t2 t ht').2.2; omega) e
  · have h3 := hto t ht
    rw [← hQ] at h3
    exact (mem_map_rq h hO (by have := (t2 t ht).2.2; omega)).1 h3

/-! Places. -/
theorem ahdR_le (x : Rst) (r : Int) : ahdR x r + (behR x r).length ≤ x.length := by
  induction x with
  | nil => simp [ahdR, behR]
  | cons y x ih =>
    cases y with
    | nil => simp only [ahdR, behR, List.length_cons]; omega
    | cons a t =>
      simp only [ahdR, behR, List.length_cons]
      by_cases h1 : a < r
      · rw [if_pos h1, if_neg (by omega)]; omega
      · rw [if_neg h1]
        split
        · simp only [List.length_cons]; omega
        · omega
theorem ahdR_zero {x : Rst} {r : Int} (h0 : [] ∉ x) (h : ∀ a u, (a :: u) ∈ x → r ≤ a) : ahdR x r = 0 := by
  induction x with
  | nil => rfl
  | cons y x ih =>
    cases y with
    | nil => exact absurd (by simp) h0
    | cons a t =>
      have := h a t (by simp)
      simp only [ahdR]
      rw [if_neg (by omega)]
      exact ih (fun e => h0 (by simp [e])) (fun a u hu => h a u (by simp [hu]))
theorem rising_tail {a : Int} {t : List Int} {x : Rst} (h : ((a :: t) :: x).Pairwise (· < ·)) : [] ∉ x ∧ ∀ b u, (b :: u) ∈ x → a ≤ b := by
  rw [List.pairwise_cons] at h
  refine ⟨fun e => absurd (h.1 _ e) (by simp), fun b u hu => ?_⟩
  have := h.1 _ hu
  rw [List.cons_lt_cons_iff] at this
  omega
/-- Behind those that stand ahead, those that go on by the rune stand in a row. -/
theorem stepR : ∀ {x : Rst}, x.Pairwise (· < ·) → ∀ (r : Int) (j : Nat), j < (behR x r).length → x[ahdR x r + j]? = ((behR x r)[j]?).map (fun t => r :: t) := by
  intro x
  induction x with
  | nil => intro _ r j hj; simp [behR] at hj
  | cons y x ih =>
    intro h r j hj
    have h2 := (List.pairwise_cons.1 h).2
    cases y with
    | nil =>
      simp only [behR, ahdR] at hj ⊢
      rw [show ahdR x r + 1 + j = (ahdR x r + j) + 1 by omega, List.getElem?_cons_succ]
      exact ih h2 r j hj
    | cons a t =>
      obtain ⟨h3, h4⟩ := rising_tail h
      simp only [behR, ahdR] at hj ⊢
      by_cases h1 : a < r
      · rw [if_neg (show ¬ a = r by omega)] at hj ⊢
        rw [if_pos h1, show ahdR x r + 1 + j = (ahdR x r + j) + 1 by omega, List.getElem?_cons_succ]
        exact ih h2 r j hj
      · rw [if_neg h1]
        by_cases e : a = r
        · subst e
          have h0 := ahdR_zero h3 h4
          rw [if_pos rfl] at hj ⊢
          rw [h0]
          cases j with
          | zero => simp
          | succ j =>
            have := ih h2 a j (by simpa using hj)
            rw [h0] at this
            rw [show 0 + (j + 1) = (0 + j) + 1 by omega, List.getElem?_cons_succ, List.getElem?_cons_succ]
            exact this
        · rw [if_neg e] at hj
          have h5 : behR x r = [] := behR_none (fun u hu => by have := h4 r u hu; omega)
          rw [h5] at hj
          simp at hj
/-- How many words stand ahead of those that begin with some runes. -/
def ahdP : Rst → List Int → Nat
  | _, [] => 0
  | x, r :: p => ahdR x r + ahdP (behR x r) p
theorem ahdP_snoc : ∀ (p : List Int) (x : Rst) (r : Int), ahdP x (p ++ [r]) = ahdP x p + ahdR (behP x p) r := by
  intro p
  induction p with
  | nil => intro x r; show ahdR x r + 0 = 0 + ahdR x r; omega
  | cons a p ih =>
    intro x r
    show ahdR x a + ahdP (behR x a) (p ++ [r]) = ahdR x a + ahdP (behR x a) p + ahdR (behP (behR x a) p) r
    rw [ih]; omega
theorem ahdP_at : ∀ (p : List Int) {x : Rst}, x.Pairwise (· < ·) → ∀ j, j < (behP x p).length → x[ahdP x p + j]? = ((behP x p)[j]?).map (fun t => p ++ t) := by
  intro p
  induction p with
  | nil =>
    intro x _ j _
    show x[0 + j]? = (x[j]?).map (fun t => [] ++ t)
    rw [Nat.zero_add]
    cases x[j]? <;> rfl
  | cons r p ih =>
    intro x hx j hj
    have h1 := ih (beh_rising hx r) j hj
    have hj2 : (behP (behR x r) p)[j]? = some ((behP (behR x r) p)[j]'hj) := List.getElem?_eq_getElem hj
    rw [hj2] at h1
    have hb : ahdP (behR x r) p + j < (behR x r).length := by
      have := (List.getElem?_eq_some_iff.1 (h1.trans rfl)).1
      exact this
    have h2 := stepR hx r _ hb
    rw [h1] at h2
    show x[ahdR x r + ahdP (behR x r) p + j]? = ((behP (behR x r) p)[j]?).map (fun t => r :: p ++ t)
    rw [Nat.add_assoc, h2, hj2]
    rfl
theorem ahdP_lt {x : Rst} (hx : x.Pairwise (· < ·)) {p : List Int} (hp : behP x p ≠ []) : ahdP x p < x.length := by
  have h0 := List.length_pos_iff.2 hp
  have h1 := ahdP_at p hx 0 h0
  rw [List.getElem?_eq_getElem h0] at h1
  exact (List.getElem?_eq_some_iff.1 h1).1
theorem nil_first {x : Rst} (hx : x.Pairwise (· < ·)) {i : Nat} (h : x[i]? = some []) : i = 0 := by
  cases x with
  | nil => simp at h
  | cons y x =>
    cases i with
    | zero => rfl
    | succ i =>
      rw [List.getElem?_cons_succ] at h
      have := (List.pairwise_cons.1 hx).1 [] (List.mem_of_getElem? h)
      exact absurd this (by simp)
theorem nil_zero {x : Rst} (hx : x.Pairwise (· < ·)) (h : [] ∈ x) : x[0]? = some [] := by
  obtain ⟨i, hi⟩ := List.mem_iff_getElem?.1 h
  rw [nil_first hx hi] at hi
  exact hi
/-- A word's place is what stands ahead of its runes. -/
theorem ahdP_word {x : Rst} (hx : x.Pairwise (· < ·)) {p : List Int} : (p ∈ x ↔ [] ∈ behP x p) ∧ (p ∈ x → x[ahdP x p]? = some p) := by
  have h : p ∈ x ↔ [] ∈ behP x p := by rw [mem_behP, List.append_nil]
  refine ⟨h, fun hp => ?_⟩
  have h1 := h.1 hp
  have h2 := nil_zero (behP_rising (p := p) hx) h1
  have := ahdP_at p hx 0 (List.length_pos_of_mem h1)
  rw [h2] at this
  simpa using this
/-- The rune that a rest at a place goes on by: none further on has as few ahead. -/
theorem at_head : ∀ {x : Rst}, x.Pairwise (· < ·) → ∀ (i : Nat) (r : Int) (t : List Int), x[i]? = some (r :: t) → ahdR x r ≤ i ∧ (behR x r)[i - ahdR x r]? = some t ∧ ∀ r', r < r' → i < ahdR x r' := by
  intro x
  induction x with
  | nil => intro _ i r t h; simp at h
  | cons y x ih =>
    intro hx i r t h
    have h2 := (List.pairwise_cons.1 hx).2
    cases i with
    | zero =>
      rw [List.getElem?_cons_zero] at h
      obtain rfl := Option.some.inj h
      obtain ⟨h3, h4⟩ := rising_tail hx
      have h0 := ahdR_zero h3 h4
      simp only [ahdR, behR, if_pos, Int.lt_irrefl, if_neg, not_false_eq_true, h0]
      refine ⟨Nat.le_refl _, by simp, fun r' hr => ?_⟩
      rw [if_pos hr]; omega
    | succ i =>
      rw [List.getElem?_cons_succ] at h
      obtain ⟨i1, i2, i3⟩ := ih h2 i r t h
      cases y with
      | nil =>
        simp only [ahdR, behR]
        refine ⟨by omega, by rw [show i + 1 - (ahdR x r + 1) = i - ahdR x r by omega]; exact i2, fun r' hr => ?_⟩
        have := i3 r' hr; omega
      | cons a u =>
        obtain ⟨h3, h4⟩ := rising_tail hx
        have har := h4 r t (List.mem_of_getElem? h)
        simp only [ahdR, behR]
        by_cases e : a = r
        · subst e
          have h0 := ahdR_zero h3 h4
          rw [h0] at i2
          rw [if_neg (by omega), if_pos rfl, h0]
          refine ⟨by omega, by simpa using i2, fun r' hr => ?_⟩
          rw [if_pos hr]
          have := i3 r' hr; omega
        · rw [if_pos (show a < r by omega), if_neg e]
          refine ⟨by omega, by rw [show i + 1 - (ahdR x r + 1) = i - ahdR x r by omega]; exact i2, fun r' hr => ?_⟩
          rw [if_pos (by omega)]
          have := i3 r' hr; omega

/-! What is looked up among rising keys. -/
/-- The place of the edge of a rune. -/
theorem edE_key {Q : List Rst} {x : Rst} (k : Nat) : (edE Q x)[k]? = ((hdsR x)[k]?).map (fun r => (r, Q.idxOf (behR x r), ahdR x r)) := List.getElem?_map
def posI (l : List Int) (t : Int) : Nat := (l.takeWhile (fun a => decide (a < t))).length
theorem posI_le (l : List Int) (t : Int) : posI l t ≤ l.length := (List.takeWhile_prefix _).length_le
theorem posI_spec : ∀ {l : List Int}, l.Pairwise (· < ·) → ∀ (t : Int), (∀ j a, j < posI l t → l[j]? = some a → a < t) ∧ (∀ j a, posI l t ≤ j → l[j]? = some a → t ≤ a) := by
  intro l
  induction l with
  | nil => intro _ t; exact ⟨fun j a _ h => by simp at h, fun j a _ h => by simp at h⟩
  | cons b l ih =>
    intro h t
    rw [List.pairwise_cons] at h
    obtain ⟨i1, i2⟩ := ih h.2 t
    by_cases hb : b < t
    · have e : posI (b :: l) t = posI l t + 1 := by simp [posI, List.takeWhile_cons, hb]
      rw [e]
      refine ⟨fun j a hj ha => ?_, fun j a hj ha => ?_⟩
      · cases j with
        | zero => rw [List.getElem?_cons_zero] at ha; rw [← Option.some.inj ha]; exact hb
        | succ j => rw [List.getElem?_cons_succ] at ha; exact i1 j a (by omega) ha
      · cases j with
        | zero => omega
        | succ j => rw [List.getElem?_cons_succ] at ha; exact i2 j a (by omega) ha
    · have e : posI (b :: l) t = 0 := by simp [posI, List.takeWhile_cons, hb]
      rw [e]
      refine ⟨fun j a hj ha => by omega, fun j a hj ha => ?_⟩
      cases j with
      | zero => rw [List.getElem?_cons_zero] at ha; rw [← Option.some.inj ha]; omega
      | succ j =>
        rw [List.getElem?_cons_succ] at ha
        have := h.1 a (List.mem_of_getElem? ha)
        omega
theorem posI_at {l : List Int} (h : l.Pairwise (· < ·)) (t : Int) : (t ∈ l ↔ l[posI l t]? = some t) := by
  obtain ⟨h1, h2⟩ := posI_spec h t
  constructor
  · intro hm
    obtain ⟨i, hi⟩ := List.mem_iff_getElem?.1 hm
    have a1 : posI l t ≤ i := Nat.le_of_not_lt fun q => by have := h1 i t q hi; omega
    have hil := (List.getElem?_eq_some_iff.1 hi).1
    by_cases e : posI l t = i
    · rw [e]; exact hi
    · have hp : posI l t < l.length := by omega
      have h3 := h2 _ _ (Nat.le_refl _) (List.getElem?_eq_getElem hp)
      have h4 := List.pairwise_iff_getElem.1 h (posI l t) i hp hil (by omega)
      rw [(List.getElem_eq_iff _).2 hi] at h4
      omega
  · exact fun hm => List.mem_of_getElem? hm
theorem posI_uniq {l : List Int} {t : Int} {m : Nat} (h : l.Pairwise (· < ·)) (hm : m ≤ l.length) (h1 : ∀ j a, j < m → l[j]? = some a → a < t) (h2 : ∀ j a, m ≤ j → l[j]? = some a → t ≤ a) : posI l t = m := by
  obtain ⟨k1, k2⟩ := posI_spec h t
  have hl := posI_le l t
  rcases Nat.lt_trichotomy (posI l t) m with q | q | q
  · have hp : posI l t < l.length := by omega
    have a := h1 _ _ q (List.getElem?_eq_getElem hp)
    have b := k2 _ _ (Nat.le_refl _) (List.getElem?_eq_getElem hp)
    omega
  · exact q
  · have hp : m < l.length := by omega
    have a := k1 _ _ q (List.getElem?_eq_getElem hp)
    have b := h2 _ _ (Nat.le_refl _) (List.getElem?_eq_getElem hp)
    omega
/-- More stand ahead of a later edge. -/
theorem ahdR_rise {x : Rst} (hx : x.Pairwise (· < ·)) {r r' : Int} (hr : r ∈ hdsR x) (h : r < r') : ahdR x r < ahdR x r' := by
  obtain ⟨t, ht⟩ := mem_hdsR.1 hr
  obtain ⟨i, hi⟩ := List.mem_iff_getElem?.1 ht
  obtain ⟨a, _, c⟩ := at_head hx i r t hi
  have := c r' h
  omega
theorem aheads_rise {x : Rst} (hx : x.Pairwise (· < ·)) : ((hdsR x).map (fun r => ((ahdR x r : Nat) : Int))).Pairwise (· < ·) := by
  rw [List.pairwise_map]
  have h := hdsR_rising hx
  have : ∀ l : List Int, (∀ r ∈ l, r ∈ hdsR x) → l.Pairwise (· < ·) → l.Pairwise (fun a b => ((ahdR x a : Nat) : Int) < ((ahdR x b : Nat) : Int)) := by
    intro l
    induction l with
    | nil => exact fun _ _ => List.Pairwise.nil
    | cons a l ih =>
      intro hm hp
      rw [List.pairwise_cons] at hp ⊢
      refine ⟨fun b hb => ?_, ih (fun r hr => hm r (by simp [hr])) hp.2⟩
      have := ahdR_rise hx (hm a (by simp)) (hp.1 b hb)
      omega
  exact this _ (fun r hr => hr) h
/-- The edge that the rest at a place goes on by is the last one that has not more ahead. -/
theorem last_at {x : Rst} (hx : x.Pairwise (· < ·)) {i : Nat} {r : Int} {t : List Int} (h : x[i]? = some (r :: t)) :
    ∃ k, posI ((hdsR x).map (fun r => ((ahdR x r : Nat) : Int))) ((i : Int) + 1) = k + 1 ∧ (hdsR x)[k]? = some r := by
  obtain ⟨a, b, c⟩ := at_head hx i r t h
  have hr : r ∈ hdsR x := mem_hdsR.2 ⟨t, List.mem_of_getElem? h⟩
  obtain ⟨k, hk⟩ := List.mem_iff_getElem?.1 hr
  have hkl := (List.getElem?_eq_some_iff.1 hk).1
  refine ⟨k, posI_uniq (aheads_rise hx) (by rw [List.length_map]; omega) (fun j v hj hv => ?_) (fun j v hj hv => ?_), hk⟩
  · rw [List.getElem?_map] at hv
    cases e : (hdsR x)[j]? with
    | none => rw [e] at hv; simp at hv
    | some r' =>
      rw [e] at hv
      obtain rfl := Option.some.inj hv
      have hjl := (List.getElem?_eq_some_iff.1 e).1
      by_cases q : j = k
      · subst q
        rw [hk] at e
        obtain rfl := Option.some.inj e
        show ((ahdR x r : Nat) : Int) < (i : Int) + 1
        omega
      · have h4 := List.pairwise_iff_getElem.1 (hdsR_rising hx) j k hjl hkl (by omega)
        rw [(List.getElem_eq_iff _).2 hk, (List.getElem_eq_iff _).2 e] at h4
        have := ahdR_rise hx (List.mem_of_getElem? e) h4
        show ((ahdR x r' : Nat) : Int) < (i : Int) + 1
        omega
  · rw [List.getElem?_map] at hv
    cases e : (hdsR x)[j]? with
    | none => rw [e] at hv; simp at hv
    | some r' =>
      rw [e] at hv
      obtain rfl := Option.some.inj hv
      have hjl := (List.getElem?_eq_some_iff.1 e).1
      have h4 := List.pairwise_iff_getElem.1 (hdsR_rising hx) k j hkl hjl (by omega)
      rw [(List.getElem_eq_iff _).2 hk, (List.getElem_eq_iff _).2 e] at h4
      have := c r' h4
      show (i : Int) + 1 ≤ ((ahdR x r' : Nat) : Int)
      omega
end Go.Proofs.YtljaibhhkjapmaaDoor

/- Words of this seat: a slice value that reads as a list of numbers (int32), kept wherever old blocks are kept; the order of two lists. -/
namespace Go.Proofs.YtljaibhhkjapmaaDoor
open Go.RowKit

/-- The slice value v reads as the list l of int32: nil or empty where l is empty; else its cells hold l one behind the other. -/
def Runs (w : World) (v : Value) (l : List Int) : Prop :=
  ∃ A c, v = .slice A l.length c ∧ l.length ≤ c ∧ (c ≤ maxLen ∧ (A = none → c = 0)) ∧
    (0 < l.length → ∃ b o, A = some ⟨b, o, none⟩ ∧ b < w.heap.size ∧ ∀ j, j < l.length → w.cell? ⟨b, o + j, none⟩ = some (.int .i32 (l.getD j 0)))

theorem Runs.below {w w' : World} {v : Value} {l : List Int} (h : Runs w v l) (hb : Below w.heap.size w w') : Runs w' v l := by
  obtain ⟨A, c, e, hc, hm, hx⟩ := h
  refine ⟨A, c, e, hc, hm, fun h0 => ?_⟩
  obtain ⟨b, o, eA, hlt, hcell⟩ := hx h0
  exact ⟨b, o, eA, Nat.lt_of_lt_of_le hlt hb.size, fun j hj => (hb.cell (p := ⟨b, o + j, none⟩) hlt).trans (hcell j hj)⟩

theorem Runs.nil_ (w : World) : Runs w (.slice none 0 0) [] := ⟨none, 0, rfl, by simp, by simp [maxLen], fun h => absurd h (by simp)⟩

theorem Runs.of_own {w : World} {base : Nat} {e : TypeId} {v : Value} {n : Nat} {l : List Int} (h : w.ownsRow base e 1 v n (l.map (Value.int .i32))) : Runs w v l := by
  obtain ⟨hlen, hv⟩ := h
  have hn : l.length = n := by simpa using hlen
  subst hn
  rcases hv with ⟨rfl, h0⟩ | ⟨g, cap, cur, rfl, _, hg, hle, hcap, hsz, htk⟩
  · exact ⟨none, 0, by rw [h0], by omega, by simp [maxLen], fun hp => absurd hp (by omega)⟩
  · refine ⟨_, cap, rfl, hle, ⟨hcap, fun h => by cases h⟩, fun _ => ⟨g, 0, rfl, (Array.getElem?_eq_some_iff.1 hg).1, fun j hj => ?_⟩⟩
    rw [cell_of_row w g (0 + j) cur e (0, 0) hg]
    have hj' : j < (cur.toList.take (l.length * 1)).length := by rw [htk]; simpa using hj
    have h2 : (cur.toList.take (l.length * 1))[j]? = some (Value.int .i32 (l.getD j 0)) := by
      rw [htk]; simp [List.getD_eq_getElem?_getD, hj]
    rw [List.getElem?_take] at h2
    rw [if_pos (by omega)] at h2
    simpa using h2

/-- -1, 0, 1: by the first two that differ, or as one has more. -/
def cmpL : List Int → List Int → Int
  | [], [] => 0
  | [], _ :: _ => -1
  | _ :: _, [] => 1
  | a :: x, b :: y => if a < b then -1 else if b < a then 1 else cmpL x y

theorem cmpL_drop {x y : List Int} {k : Nat} (hx : k < x.length) (hy : k < y.length) :
    cmpL (x.drop k) (y.drop k) = if x.getD k 0 < y.getD k 0 then -1 else if y.getD k 0 < x.getD k 0 then 1 else cmpL (x.drop (k + 1)) (y.drop (k + 1)) := by
  rw [List.drop_eq_getElem_cons hx, List.drop_eq_getElem_cons hy]
  simp [cmpL, List.getD_eq_getElem?_getD, hx, hy]
theorem cmpL_lt {x y : List Int} (hx : x = []) (hy : 0 < y.length) : cmpL x y = -1 := by
  subst hx; cases y with
  | nil => simp at hy
  | cons _ _ => rfl
theorem cmpL_gt {x y : List Int} (hx : 0 < x.length) (hy : y = []) : cmpL x y = 1 := by
  subst hy; cases x with
  | nil => simp at hx
  | cons _ _ => rfl
theorem cmpL_eq {x y : List Int} : cmpL x y = 0 ↔ x = y := by
  induction x generalizing y with
  | nil => cases y <;> simp [cmpL]
  | cons a x ih =>
    cases y with
    | nil => simp [cmpL]
    | cons b y =>
      simp only [cmpL]
      by_cases h1 : a < b
      · simp [h1]; intro h; omega
      · by_cases h2 : b < a
        · simp [h1, h2]; intro h; omega
        · have : a = b := by omega
          simp [ih, this]
theorem cmpL_bd (x y : List Int) : cmpL x y = -1 ∨ cmpL x y = 0 ∨ cmpL x y = 1 := by
  induction x generalizing y with
  | nil => cases y <;> simp [cmpL]
  | cons a x ih =>
    cases y with
    | nil => simp [cmpL]
    | cons b y =>
      simp only [cmpL]
      split
      · simp
      · split
        · simp
        · exact ih y

theorem ret_int {k : IntKind} {a b : Int} (h : a = b) : Ending.returned (.int k a) = .returned (.int k b) := by rw [h]
theorem ret_bool {a b : Bool} (h : a = b) : Ending.returned (.bool a) = .returned (.bool b) := by rw [h]
/-- Nothing was done but some draws of an order. -/
def Drawn (w w' : World) : Prop := ∃ q, w' = w.drewN q
theorem Drawn.refl (w : World) : Drawn w w := ⟨0, rfl⟩
theorem Drawn.of (w : World) (a : Nat) : Drawn w (w.drewN a) := ⟨a, rfl⟩
theorem Drawn.of2 (w : World) (a b : Nat) : Drawn w ((w.drewN a).drewN b) := ⟨a + b, by rw [World.drewN_drewN]⟩
theorem Drawn.of3 (w : World) (a b c : Nat) : Drawn w (((w.drewN a).drewN b).drewN c) := ⟨a + b + c, by simp only [World.drewN_drewN, Nat.add_assoc]⟩
theorem Drawn.trans {a b c : World} (h : Drawn a b) (k : Drawn b c) : Drawn a c := by
  obtain ⟨x, rfl⟩ := h; obtain ⟨y, rfl⟩ := k; exact Drawn.of2 _ _ _
theorem below_draws {B : Nat} {a w : World} (h : Below B a w) (n : Nat) : Below B a (w.drewN n) := ⟨h.os, h.tape, h.output, h.size, h.block⟩
theorem Drawn.below {w w' : World} (h : Drawn w w') (B : Nat) : Below B w w' := by obtain ⟨q, rfl⟩ := h; exact below_draws (Below.refl _ _) q
end Go.Proofs.YtljaibhhkjapmaaDoor

