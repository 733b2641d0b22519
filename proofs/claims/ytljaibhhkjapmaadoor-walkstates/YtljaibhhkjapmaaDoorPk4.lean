/- Texts that several proofs of this seat share, one behind the other: XPlain GenRow GenApp Alive Cmp. -/
import Derived.Test.YtljaibhhkjapmaaDoorPk3
import Derived.Sort.Walk0
import Derived.Test.YtljaibhhkjapmaaDoorPk2
import Derived.OwnWalk
import Derived.Maps.AppendAt
import Derived.Test.YtljaibhhkjapmaaDoorProg
/- Words, plain: in order, how frequent each is, gathered; whether they may be; which ones begin so; the most frequent ones. -/
namespace Go.Proofs.YtljaibhhkjapmaaDoor
open Go.RowKit Go.Shelf

/-- A word: its text, how frequent it is. -/
abbrev Wrd := ByteArray × Int
/-- Does a text stand ahead of another one? -/
def ltK (a b : ByteArray) : Bool := Op.bytesLess a.toList b.toList
theorem ltK_iff (a b : ByteArray) : ltK a b = true ↔ a.data.toList < b.data.toList := by
  unfold ltK; rw [Go.Proofs.bytesLess_eq, decide_eq_true_eq, Lib.toList_data, Lib.toList_data]
theorem key_ext {a b : ByteArray} (h : a.data.toList = b.data.toList) : a = b := by
  cases a; cases b; congr 1; exact Array.toList_inj.1 h
theorem key_tri (x y : List UInt8) (h1 : ¬ x < y) (h2 : ¬ y < x) : x = y := List.le_antisymm (List.not_lt.1 h2) (List.not_lt.1 h1)
theorem ltK_one (a b : ByteArray) : (ltK a b = true ∧ ltK b a = false ∧ a ≠ b) ∨ (ltK a b = false ∧ ltK b a = true ∧ a ≠ b) ∨ (ltK a b = false ∧ ltK b a = false ∧ a = b) := by
  have i1 := ltK_iff a b
  have i2 := ltK_iff b a
  have ir : ∀ x : List UInt8, ¬ x < x := List.lt_irrefl
  cases h1 : ltK a b with
  | true =>
    have k1 := i1.1 h1
    refine .inl ⟨rfl, ?_, fun e => ir _ (by rw [e] at k1; exact k1)⟩
    cases h2 : ltK b a with
    | false => rfl
    | true => exact absurd (List.lt_trans k1 (i2.1 h2)) (ir _)
  | false =>
    cases h2 : ltK b a with
    | true =>
      have k2 := i2.1 h2
      exact .inr (.inl ⟨rfl, rfl, fun e => ir _ (by rw [e] at k2; exact k2)⟩)
    | false =>
      refine .inr (.inr ⟨rfl, rfl, key_ext (key_tri _ _ (fun h => ?_) (fun h => ?_))⟩)
      · rw [i1.2 h] at h1; cases h1
      · rw [i2.2 h] at h2; cases h2
theorem ltK_irrefl (a : ByteArray) : ltK a a = false := by
  rcases ltK_one a a with ⟨_, h, _⟩ | ⟨h, _, _⟩ | ⟨h, _, _⟩ <;> exact h
theorem ltK_on {a b c : ByteArray} (h1 : ltK a b = true) (h2 : ltK b c = true) : ltK a c = true := by
  rw [ltK_iff] at *; exact List.lt_trans h1 h2
theorem ltK_not {a b : ByteArray} (h : ltK a b = true) : ltK b a = false ∧ a ≠ b := by
  rcases ltK_one a b with ⟨_, h2, h3⟩ | ⟨h1, _, _⟩ | ⟨h1, _, _⟩
  · exact ⟨h2, h3⟩
  · rw [h] at h1; cases h1
  · rw [h] at h1; cases h1
theorem ltK_else {a b : ByteArray} (h : ltK a b = false) (hne : a ≠ b) : ltK b a = true := by
  rcases ltK_one a b with ⟨h1, _, _⟩ | ⟨_, h2, _⟩ | ⟨_, _, h3⟩
  · rw [h] at h1; cases h1
  · exact h2
  · exact absurd h3 hne
/-- Not ahead, and not behind what isn't ahead. -/
theorem ltK_ge_on {a b c : ByteArray} (h1 : ltK b a = false) (h2 : ltK c b = false) : ltK c a = false := by
  cases h : ltK c a with
  | false => rfl
  | true =>
    rcases ltK_one a b with ⟨h3, _, _⟩ | ⟨_, h3, _⟩ | ⟨_, _, h3⟩
    · rw [ltK_on h h3] at h2; cases h2
    · rw [h1] at h3; cases h3
    · subst h3; rw [h] at h2; cases h2

/-- Words rise, no two alike. -/
def SrtW : List Wrd → Prop
  | [] => True
  | a :: l => (∀ b ∈ l, ltK a.1 b.1 = true) ∧ SrtW l
/-- The Freqs of a text together. -/
def sumK : List Wrd → ByteArray → Int
  | [], _ => 0
  | x :: t, k => (if x.1 = k then x.2 else 0) + sumK t k
/-- How frequent a text is in all. -/
def frq (l : List Wrd) (k : ByteArray) : Int := min 1073741824 (sumK l k)
/-- Freqs that may be. -/
def frB (l : List Wrd) : Prop := ∀ b ∈ l, 1 ≤ b.2 ∧ b.2 ≤ 1073741824
theorem sumK_append (a b : List Wrd) (k : ByteArray) : sumK (a ++ b) k = sumK a k + sumK b k := by
  induction a with
  | nil => simp [sumK]
  | cons x a ih => rw [List.cons_append, sumK, sumK, ih]; omega
theorem sumK_nonneg {l : List Wrd} (h : frB l) (k : ByteArray) : 0 ≤ sumK l k := by
  induction l with
  | nil => simp [sumK]
  | cons x l ih =>
    have h1 := (h x (by simp)).1
    have h2 := ih (fun b hb => h b (by simp [hb]))
    rw [sumK]; split <;> omega
theorem sumK_none {l : List Wrd} {k : ByteArray} (h : ∀ b ∈ l, b.1 ≠ k) : sumK l k = 0 := by
  induction l with
  | nil => rfl
  | cons x l ih => rw [sumK, if_neg (h x (by simp)), ih (fun b hb => h b (by simp [hb]))]; rfl
theorem sumK_pos {l : List Wrd} (h : frB l) {b : Wrd} (hb : b ∈ l) : b.2 ≤ sumK l b.1 := by
  induction l with
  | nil => simp at hb
  | cons x l ih =>
    have h2 : frB l := fun b hb => h b (by simp [hb])
    have h3 := sumK_nonneg h2 b.1
    rw [sumK]
    rcases List.mem_cons.1 hb with rfl | hb
    · rw [if_pos rfl]; omega
    · have := ih h2 hb
      have := (h x (by simp)).1
      split <;> omega
theorem sumK_perm {l m : List Wrd} (h : l.Perm m) (k : ByteArray) : sumK l k = sumK m k := by
  induction h with
  | nil => rfl
  | cons x _ ih => rw [sumK, sumK, ih]
  | swap x y l => rw [sumK, sumK, sumK, sumK]; omega
  | trans _ _ ih1 ih2 => rw [ih1, ih2]
theorem frq_nil (k : ByteArray) : frq [] k = 0 := by unfold frq; rw [sumK]; omega
theorem frq_nonneg {l : List Wrd} (h : frB l) (k : ByteArray) : 0 ≤ frq l k := by have := sumK_nonneg h k; unfold frq; omega
theorem frq_le (l : List Wrd) (k : ByteArray) : frq l k ≤ 1073741824 := by unfold frq; omega
theorem frq_pos {l : List Wrd} (h : frB l) {b : Wrd} (hb : b ∈ l) : 1 ≤ frq l b.1 := by
  have := sumK_pos h hb
  have := (h b hb).1
  unfold frq; omega
theorem frq_zero {l : List Wrd} (h : frB l) {k : ByteArray} : frq l k = 0 ↔ ∀ b ∈ l, b.1 ≠ k := by
  constructor
  · rintro h0 b hb rfl
    have := frq_pos h hb
    omega
  · intro h1
    unfold frq
    rw [sumK_none h1]; omega
theorem frq_srt {l : List Wrd} (hs : SrtW l) (h : frB l) : ∀ b ∈ l, frq l b.1 = b.2 := by
  induction l with
  | nil => simp
  | cons x l ih =>
    intro b hb
    have h2 : frB l := fun b hb => h b (by simp [hb])
    have hb2 := h b hb
    rcases List.mem_cons.1 hb with rfl | hb
    · unfold frq
      rw [sumK, if_pos rfl, sumK_none (fun z hz => (ltK_not (hs.1 z hz)).2.symm)]
      omega
    · have := ih hs.2 h2 b hb
      unfold frq at this ⊢
      rw [sumK, if_neg (ltK_not (hs.1 b hb)).2, Int.zero_add]; exact this
theorem frB_append {a b : List Wrd} (ha : frB a) (hb : frB b) : frB (a ++ b) := fun z hz => by
  rcases List.mem_append.1 hz with h | h
  · exact ha z h
  · exact hb z h
theorem frB_sub {a b : List Wrd} (hb : frB b) (h : ∀ z ∈ a, z ∈ b) : frB a := fun z hz => hb z (h z hz)
/-- Two rows in order that are as frequent are the same. -/
theorem srtW_ext {a b : List Wrd} (ha : SrtW a) (hb : SrtW b) (pa : frB a) (pb : frB b) (h : ∀ k, frq a k = frq b k) : a = b := by
  induction a generalizing b with
  | nil =>
    cases b with
    | nil => rfl
    | cons y b =>
      exfalso
      have h1 := h y.1
      have h2 := frq_pos pb (b := y) (by simp)
      have h3 := frq_nil y.1
      omega
  | cons x a ih =>
    cases b with
    | nil =>
      exfalso
      have h1 := h x.1
      have h2 := frq_pos pa (b := x) (by simp)
      have h3 := frq_nil x.1
      omega
    | cons y b =>
      have pa' : frB a := fun z hz => pa z (by simp [hz])
      have pb' : frB b := fun z hz => pb z (by simp [hz])
      rcases ltK_one x.1 y.1 with ⟨h1, _, _⟩ | ⟨_, h1, _⟩ | ⟨_, _, h1⟩
      · exfalso
        have h2 := h x.1
        have h3 := frq_pos pa (b := x) (by simp)
        have h4 : frq (y :: b) x.1 = 0 := (frq_zero pb).2 (fun z hz => by
          rcases List.mem_cons.1 hz with rfl | hz
          · exact (ltK_not h1).2.symm
          · exact (ltK_not (ltK_on h1 (hb.1 z hz))).2.symm)
        omega
      · exfalso
        have h2 := h y.1
        have h3 := frq_pos pb (b := y) (by simp)
        have h4 : frq (x :: a) y.1 = 0 := (frq_zero pa).2 (fun z hz => by
          rcases List.mem_cons.1 hz with rfl | hz
          · exact (ltK_not h1).2.symm
          · exact (ltK_not (ltK_on h1 (ha.1 z hz))).2.symm)
        omega
      · have h2 := h x.1
        rw [frq_srt ha pa x (by simp), h1, frq_srt hb pb y (by simp)] at h2
        have exy : x = y := Prod.ext h1 h2
        subst exy
        rw [ih ha.2 hb.2 pa' pb' (fun k => by
          by_cases hk : x.1 = k
          · subst hk
            rw [(frq_zero pa').2 (fun z hz => (ltK_not (ha.1 z hz)).2.symm), (frq_zero pb').2 (fun z hz => (ltK_not (hb.1 z hz)).2.symm)]
          · have h5 := h k
            unfold frq at h5 ⊢
            rw [sumK, sumK, if_neg hk] at h5
            simpa using h5)]

/-- A word more among words in order. -/
def insW (b : Wrd) : List Wrd → List Wrd
  | [] => [b]
  | x :: t => if ltK x.1 b.1 = true then x :: insW b t else if x.1 = b.1 then (x.1, min 1073741824 (x.2 + b.2)) :: t else b :: x :: t
theorem insW_keys (b : Wrd) (l : List Wrd) : ∀ z ∈ insW b l, z.1 = b.1 ∨ ∃ y ∈ l, z.1 = y.1 := by
  induction l with
  | nil => intro z hz; rw [insW] at hz; obtain rfl : z = b := (by simpa using hz); exact .inl rfl
  | cons x t ih =>
    intro z hz
    rw [insW] at hz
    split at hz
    · rcases List.mem_cons.1 hz with rfl | hz
      · exact .inr ⟨z, by simp, rfl⟩
      · rcases ih z hz with h | ⟨y, hy, h⟩
        · exact .inl h
        · exact .inr ⟨y, by simp [hy], h⟩
    · split at hz
      · rcases List.mem_cons.1 hz with rfl | hz
        · exact .inr ⟨x, by simp, rfl⟩
        · exact .inr ⟨z, by simp [hz], rfl⟩
      · rcases List.mem_cons.1 hz with rfl | hz
        · exact .inl rfl
        · exact .inr ⟨z, hz, rfl⟩
theorem insW_srt {b : Wrd} {l : List Wrd} (hl : SrtW l) : SrtW (insW b l) := by
  induction l with
  | nil => rw [insW]; exact ⟨fun z hz => by simp at hz, trivial⟩
  | cons x t ih =>
    rw [insW]
    split
    · rename_i h
      refine ⟨fun z hz => ?_, ih hl.2⟩
      rcases insW_keys b t z hz with e | ⟨y, hy, e⟩
      · rw [e]; exact h
      · rw [e]; exact hl.1 y hy
    · split
      · exact ⟨fun z hz => hl.1 z hz, hl.2⟩
      · rename_i h1 h2
        have hbx : ltK b.1 x.1 = true := ltK_else (by simpa using h1) h2
        refine ⟨fun z hz => ?_, hl⟩
        rcases List.mem_cons.1 hz with rfl | hz
        · exact hbx
        · exact ltK_on hbx (hl.1 z hz)
theorem insW_frB {b : Wrd} {l : List Wrd} (hb : 1 ≤ b.2 ∧ b.2 ≤ 1073741824) (hl : frB l) : frB (insW b l) := by
  induction l with
  | nil => intro z hz; rw [insW] at hz; obtain rfl : z = b := (by simpa using hz); exact hb
  | cons x t ih =>
    have hx := hl x (by simp)
    have ht : frB t := fun z hz => hl z (by simp [hz])
    rw [insW]
    split
    · intro z hz
      rcases List.mem_cons.1 hz with rfl | hz
      · exact hx
      · exact ih ht z hz
    · split
      · intro z hz
        rcases List.mem_cons.1 hz with rfl | hz
        · simp only; omega
        · exact ht z hz
      · intro z hz
        rcases List.mem_cons.1 hz with rfl | hz
        · exact hb
        · exact hl z hz
theorem insW_frq {b : Wrd} {l : List Wrd} (hb : 1 ≤ b.2 ∧ b.2 ≤ 1073741824) (hl : frB l) (k : ByteArray) : frq (insW b l) k = min 1073741824 (frq l k + if b.1 = k then b.2 else 0) := by
  induction l with
  | nil =>
    have e : sumK [b] k = (if b.1 = k then b.2 else 0) + 0 := rfl
    rw [frq_nil, insW]; unfold frq; rw [e]; split <;> omega
  | cons x t ih =>
    have hx := hl x (by simp)
    have ht : frB t := fun z hz => hl z (by simp [hz])
    have n1 := sumK_nonneg ht k
    have n2 := sumK_nonneg (insW_frB hb ht) k
    have h3 := ih ht
    unfold frq at h3 ⊢
    rw [insW]
    split
    · rw [sumK, sumK]
      split at h3 <;> split <;> omega
    · split
      · rename_i h
        rw [sumK, sumK]
        by_cases hk : x.1 = k
        · rw [if_pos hk, if_pos hk, if_pos (h.symm.trans hk)]; simp only; omega
        · rw [if_neg hk, if_neg hk, if_neg (fun e => hk (h.trans e))]; omega
      · rw [sumK, sumK]
        split <;> split <;> omega
theorem insW_len (b : Wrd) (l : List Wrd) : (insW b l).length ≤ l.length + 1 := by
  induction l with
  | nil => simp [insW]
  | cons x t ih =>
    rw [insW]
    split
    · simp only [List.length_cons]; omega
    · split
      · simp
      · simp
/-- Words each once, in order. -/
def nrmW (l : List Wrd) : List Wrd := l.foldl (fun out b => insW b out) []
theorem nrmW_snoc (l : List Wrd) (b : Wrd) : nrmW (l ++ [b]) = insW b (nrmW l) := by simp [nrmW]
theorem nrmW_take {l : List Wrd} (k : Nat) (x : Wrd) (h : l[k]? = some x) : nrmW (l.take (k + 1)) = insW x (nrmW (l.take k)) := by
  rw [List.take_add_one, h]; exact nrmW_snoc _ _
theorem foldW_facts (l out : List Wrd) (ho : SrtW out) (hp : frB out) (hl : frB l) : SrtW (l.foldl (fun out b => insW b out) out) ∧ frB (l.foldl (fun out b => insW b out) out) ∧ ∀ k, frq (l.foldl (fun out b => insW b out) out) k = min 1073741824 (frq out k + sumK l k) := by
  induction l generalizing out with
  | nil => exact ⟨ho, hp, fun k => by rw [sumK, List.foldl_nil]; unfold frq; omega⟩
  | cons b l ih =>
    have hb := hl b (by simp)
    have hl' : frB l := fun z hz => hl z (by simp [hz])
    obtain ⟨h1, h2, h3⟩ := ih (insW b out) (insW_srt ho) (insW_frB hb hp) hl'
    refine ⟨h1, h2, fun k => ?_⟩
    have := sumK_nonneg hl' k
    have := frq_nonneg hp k
    rw [List.foldl_cons, h3 k, insW_frq hb hp, sumK]
    split <;> omega
theorem nrmW_srt {l : List Wrd} (h : frB l) : SrtW (nrmW l) := (foldW_facts l [] trivial (fun z hz => by simp at hz) h).1
theorem nrmW_frB {l : List Wrd} (h : frB l) : frB (nrmW l) := (foldW_facts l [] trivial (fun z hz => by simp at hz) h).2.1
theorem nrmW_frq {l : List Wrd} (h : frB l) (k : ByteArray) : frq (nrmW l) k = frq l k := by
  have := (foldW_facts l [] trivial (fun z hz => by simp at hz) h).2.2 k
  have e := frq_nil k
  rw [e, Int.zero_add] at this
  exact this
/-- What is in order, and as frequent as a list is, is that list made normal. -/
theorem nrmW_uniq {l t : List Wrd} (hl : frB l) (ht : SrtW t) (pt : frB t) (h : ∀ k, frq t k = frq l k) : t = nrmW l :=
  srtW_ext ht (nrmW_srt hl) pt (nrmW_frB hl) (fun k => by rw [h k, nrmW_frq hl])
theorem nrmW_perm {l m : List Wrd} (hl : frB l) (hp : m.Perm l) : nrmW m = nrmW l := by
  have hm : frB m := fun z hz => hl z (hp.subset hz)
  exact nrmW_uniq hl (nrmW_srt hm) (nrmW_frB hm) (fun k => by rw [nrmW_frq hm]; unfold frq; rw [sumK_perm hp])
theorem nrmW_self {l : List Wrd} (hl : frB l) (hs : SrtW l) : nrmW l = l := (nrmW_uniq hl hs hl (fun _ => rfl)).symm
theorem foldW_len (l out : List Wrd) : (l.foldl (fun out b => insW b out) out).length ≤ out.length + l.length := by
  induction l generalizing out with
  | nil => simp
  | cons b l ih =>
    have h1 := ih (insW b out)
    have h2 := insW_len b out
    rw [List.foldl_cons, List.length_cons]; omega
theorem nrmW_len (l : List Wrd) : (nrmW l).length ≤ l.length := by have := foldW_len l []; unfold nrmW; simpa using this
theorem foldW_keys (l out : List Wrd) : ∀ z ∈ l.foldl (fun out b => insW b out) out, (∃ y ∈ l, z.1 = y.1) ∨ ∃ y ∈ out, z.1 = y.1 := by
  induction l generalizing out with
  | nil => exact fun z hz => .inr ⟨z, hz, rfl⟩
  | cons b l ih =>
    intro z hz
    rcases ih (insW b out) z hz with ⟨y, hy, e⟩ | ⟨y, hy, e⟩
    · exact .inl ⟨y, by simp [hy], e⟩
    · rcases insW_keys b out y hy with e2 | ⟨y2, hy2, e2⟩
      · exact .inl ⟨b, by simp, e.trans e2⟩
      · exact .inr ⟨y2, hy2, e.trans e2⟩
theorem nrmW_keys (l : List Wrd) : ∀ z ∈ nrmW l, ∃ y ∈ l, z.1 = y.1 := fun z hz => by
  rcases foldW_keys l [] z hz with h | ⟨y, hy, _⟩
  · exact h
  · simp at hy
/-- Where words are sorted, a next one is one more, or the last one is more frequent. -/
theorem insW_last (out : List Wrd) (y x : Wrd) (h : ∀ z ∈ out, ltK z.1 x.1 = true) (hy : ltK x.1 y.1 = false) : insW x (out ++ [y]) = if y.1 = x.1 then out ++ [(y.1, min 1073741824 (y.2 + x.2))] else out ++ [y] ++ [x] := by
  induction out with
  | nil =>
    simp only [List.nil_append]
    rw [insW]
    by_cases e : y.1 = x.1
    · rw [if_neg (by rw [e, ltK_irrefl]; simp), if_pos e, if_pos e]
    · rw [if_pos (ltK_else hy (fun q => e q.symm)), if_neg e]; rfl
  | cons a out ih =>
    rw [List.cons_append, insW, if_pos (h a (by simp)), ih (fun z hz => h z (by simp [hz]))]
    split <;> rfl

/-- Whether a word may be; the first error of words. -/
def wchk (x : Wrd) : Int := if tokErr x.1.data.toList = 0 then (if x.2 < 1 ∨ 1073741824 < x.2 then 2 else 0) else tokErr x.1.data.toList
def wall : List Wrd → Int
  | [] => 0
  | b :: l => if wchk b = 0 then wall l else wchk b
/-- Each ahead of the next one. -/
def ordW : List Wrd → Bool
  | [] => true
  | a :: l => (match l.head? with | none => true | some b => ltK a.1 b.1) && ordW l
theorem ordW_srt (l : List Wrd) : ordW l = true ↔ SrtW l := by
  induction l with
  | nil => simp [ordW, SrtW]
  | cons a l ih =>
    rw [ordW, Bool.and_eq_true, ih]
    cases l with
    | nil => simp [SrtW]
    | cons b l =>
      simp only [List.head?_cons, SrtW]
      constructor
      · rintro ⟨h1, h2, h3⟩
        refine ⟨fun z hz => ?_, h2, h3⟩
        rcases List.mem_cons.1 hz with rfl | hz
        · exact h1
        · exact ltK_on h1 (h2 z hz)
      · rintro ⟨h1, h2, h3⟩
        exact ⟨h1 b (by simp), h2, h3⟩
def wisS (l : List Wrd) : Int := if wall l = 0 then (if ordW l then (if 65536 < l.length then 6 else 0) else 7) else wall l
def worE (l : List Wrd) : Int := if wall l = 0 then (if 65536 < (nrmW l).length then 6 else 0) else wall l
def worS (l : List Wrd) : List Wrd := if worE l = 0 then nrmW l else []
theorem wchk_fr {r : Wrd} (h : wchk r = 0) : 1 ≤ r.2 ∧ r.2 ≤ 1073741824 := by
  unfold wchk at h
  split at h
  · split at h
    · cases h
    · omega
  · rename_i h0; exact absurd h h0
theorem wall_zero {l : List Wrd} : wall l = 0 ↔ ∀ b ∈ l, wchk b = 0 := by
  induction l with
  | nil => simp [wall]
  | cons a l ih =>
    rw [wall]
    split
    · rename_i h
      rw [ih]
      constructor
      · intro h2 b hb
        rcases List.mem_cons.1 hb with rfl | hb
        · exact h
        · exact h2 b hb
      · exact fun h2 b hb => h2 b (by simp [hb])
    · rename_i h
      exact ⟨fun h2 => absurd h2 h, fun h2 => absurd (h2 a (by simp)) h⟩
theorem frB_of {l : List Wrd} (h : wall l = 0) : frB l := fun b hb => wchk_fr (wall_zero.1 h b hb)
theorem wall_append (a b : List Wrd) : wall (a ++ b) = if wall a = 0 then wall b else wall a := by
  induction a with
  | nil => simp [wall]
  | cons x a ih =>
    rw [List.cons_append, wall, wall, ih]
    by_cases h : wchk x = 0
    · simp only [h, if_true]
    · simp only [h, if_false]
theorem wall_take {l : List Wrd} (k : Nat) (x : Wrd) (h : l[k]? = some x) (h0 : wall (l.take k) = 0) : (wchk x = 0 → wall (l.take (k + 1)) = 0) ∧ (wchk x ≠ 0 → wall l = wchk x) := by
  refine ⟨fun hx => ?_, fun hx => ?_⟩
  · rw [List.take_add_one, h, wall_append, if_pos h0]; simp [wall, hx]
  · have e : l = l.take k ++ x :: l.drop (k + 1) := by
      have hk := (List.getElem?_eq_some_iff.1 h).1
      have hx2 := (List.getElem?_eq_some_iff.1 h).2
      rw [← hx2, ← List.drop_eq_getElem_cons hk, List.take_append_drop]
    rw [e, wall_append, if_pos h0, wall, if_neg hx]
theorem ordW_one (l : List Wrd) : ordW (l.take 1) = true := by
  cases l with
  | nil => rfl
  | cons a l => rfl
theorem srtW_snoc (l : List Wrd) (y x : Wrd) (h : SrtW (l ++ [y])) (hx : ltK y.1 x.1 = true) : SrtW (l ++ [y] ++ [x]) := by
  induction l with
  | nil => exact ⟨fun z hz => by obtain rfl : z = x := (by simpa using hz); exact hx, fun z hz => by simp at hz, trivial⟩
  | cons a l ih =>
    refine ⟨fun z hz => ?_, ih h.2⟩
    rcases List.mem_append.1 hz with hz | hz
    · exact h.1 z hz
    · obtain rfl : z = x := (by simpa using hz)
      exact ltK_on (h.1 y (by simp)) hx
theorem srtW_at {l : List Wrd} (hs : SrtW l) {i j : Nat} {x y : Wrd} (hij : i < j) (hx : l[i]? = some x) (hy : l[j]? = some y) : ltK x.1 y.1 = true := by
  induction l generalizing i j with
  | nil => simp at hx
  | cons a l ih =>
    cases j with
    | zero => omega
    | succ j =>
      cases i with
      | zero =>
        obtain rfl : a = x := by simpa using hx
        exact hs.1 y (List.mem_of_getElem? (by simpa using hy))
      | succ i => exact ih (i := i) (j := j) hs.2 (by omega) (by simpa using hx) (by simpa using hy)
theorem ordW_take {l : List Wrd} (k : Nat) (y x : Wrd) (hy : l[k]? = some y) (hx : l[k + 1]? = some x) (h0 : ordW (l.take (k + 1)) = true) : (ltK y.1 x.1 = true → ordW (l.take (k + 1 + 1)) = true) ∧ (ltK y.1 x.1 = false → ordW l = false) := by
  refine ⟨fun h => ?_, fun h => ?_⟩
  · have h1 : SrtW (l.take (k + 1)) := (ordW_srt _).1 h0
    rw [ordW_srt, List.take_add_one (i := k + 1), hx, List.take_add_one (i := k), hy]
    rw [List.take_add_one, hy] at h1
    exact srtW_snoc _ _ _ h1 h
  · cases ho : ordW l with
    | false => rfl
    | true =>
      have := srtW_at ((ordW_srt l).1 ho) (Nat.lt_succ_self k) hy hx
      rw [h] at this; cases this
theorem worE_facts {l : List Wrd} (h : worE l = 0) : wall l = 0 ∧ (nrmW l).length ≤ 65536 := by
  unfold worE at h
  split at h
  · rename_i h0
    split at h
    · cases h
    · exact ⟨h0, by omega⟩
  · rename_i h0; exact absurd h h0
theorem worE_of {l : List Wrd} (h1 : wall l = 0) (h2 : (nrmW l).length ≤ 65536) : worE l = 0 := by
  unfold worE; rw [if_pos h1, if_neg (by omega)]
theorem wisS_of {l : List Wrd} (h1 : wall l = 0) (h2 : SrtW l) (h3 : l.length ≤ 65536) : wisS l = 0 := by
  unfold wisS; rw [if_pos h1, if_pos ((ordW_srt l).2 h2), if_neg (by omega)]
theorem wisS_facts {l : List Wrd} (h : wisS l = 0) : wall l = 0 ∧ SrtW l ∧ l.length ≤ 65536 := by
  unfold wisS at h
  split at h
  · rename_i h0
    split at h
    · rename_i h1
      split at h
      · cases h
      · exact ⟨h0, (ordW_srt l).1 h1, by omega⟩
    · cases h
  · rename_i h0; exact absurd h h0
theorem nrmW_chk {l : List Wrd} (h : wall l = 0) : wall (nrmW l) = 0 := wall_zero.2 (fun z hz => by
  obtain ⟨y, hy, e⟩ := nrmW_keys l z hz
  have hc := nrmW_frB (frB_of h) z hz
  have h1 := wall_zero.1 h y hy
  unfold wchk at h1 ⊢
  rw [e]
  split at h1
  · rename_i h0
    rw [if_pos h0, if_neg (by omega)]
  · rename_i h0; exact absurd h1 h0)
theorem worS_eq {l : List Wrd} (h : worE l = 0) : worS l = nrmW l := by rw [worS, if_pos h]
theorem wor_is {l : List Wrd} (h : worE l = 0) : wisS (worS l) = 0 := by
  obtain ⟨h1, h2⟩ := worE_facts h
  rw [worS_eq h]
  exact wisS_of (nrmW_chk h1) (nrmW_srt (frB_of h1)) h2
theorem wor_no {l : List Wrd} (h : worE l ≠ 0) : worS l = [] ∧ wisS l ≠ 0 := by
  refine ⟨by rw [worS, if_neg h], fun h2 => h ?_⟩
  obtain ⟨q1, _, q3⟩ := wisS_facts h2
  exact worE_of q1 (Nat.le_trans (nrmW_len l) q3)
theorem wor_again {l : List Wrd} (h : worE l = 0) : worE (worS l) = 0 ∧ worS (worS l) = worS l := by
  obtain ⟨h1, h2⟩ := worE_facts h
  have hs : nrmW (nrmW l) = nrmW l := nrmW_self (nrmW_frB (frB_of h1)) (nrmW_srt (frB_of h1))
  rw [worS_eq h]
  have h3 : worE (nrmW l) = 0 := worE_of (nrmW_chk h1) (by rw [hs]; exact h2)
  exact ⟨h3, by rw [worS_eq h3, hs]⟩
theorem wor_swap (a b : List Wrd) : (worE (a ++ b) = 0 ↔ worE (b ++ a) = 0) ∧ (worE (a ++ b) = 0 → worS (a ++ b) = worS (b ++ a)) := by
  have hw : wall (a ++ b) = 0 ↔ wall (b ++ a) = 0 := by
    rw [wall_zero, wall_zero]
    constructor <;> exact fun h z hz => h z (by rcases List.mem_append.1 hz with h | h <;> simp [h])
  have key : wall (a ++ b) = 0 → nrmW (a ++ b) = nrmW (b ++ a) := fun h => (nrmW_perm (frB_of h) List.perm_append_comm).symm
  have h1 : worE (a ++ b) = 0 ↔ worE (b ++ a) = 0 := by
    constructor
    · intro h
      obtain ⟨q1, q2⟩ := worE_facts h
      exact worE_of (hw.1 q1) (by rw [← key q1]; exact q2)
    · intro h
      obtain ⟨q1, q2⟩ := worE_facts h
      have q3 := hw.2 q1
      exact worE_of q3 (by rw [key q3]; exact q2)
  refine ⟨h1, fun h => ?_⟩
  rw [worS_eq h, worS_eq (h1.1 h)]
  exact key (worE_facts h).1
theorem worS_len (l : List Wrd) : (worS l).length ≤ l.length := by
  unfold worS
  split
  · exact nrmW_len l
  · simp
/-- How frequent a word is: 0 where there is none; the error. -/
def wfS (l : List Wrd) (k : ByteArray) : Int := if wisS l = 0 then frq l k else 0
def wfE (l : List Wrd) (k : ByteArray) : Int := if wisS l = 0 then (if frq l k = 0 then 10 else 0) else wisS l
/-- Words whose texts are no longer than so much. -/
def szW (l : List Wrd) : Prop := ∀ b ∈ l, b.1.size ≤ 2000000
theorem szW_nor {l : List Wrd} (h : szW l) : szW (worS l) := by
  unfold worS
  split
  · intro b hb
    obtain ⟨y, hy, e⟩ := nrmW_keys l b hb
    rw [e]; exact h y hy
  · exact fun b hb => by simp at hb

/-- -1, 0, 1: which of two texts stands ahead. -/
def cmpK (a b : ByteArray) : Int := Lib.compareBytes a.data.toList b.data.toList
theorem compareBytes_lt (x y : List UInt8) : (Lib.compareBytes x y = -1 ↔ x < y) ∧ (Lib.compareBytes x y = 0 ↔ x = y) ∧ (Lib.compareBytes x y = -1 ∨ Lib.compareBytes x y = 0 ∨ Lib.compareBytes x y = 1) := by
  induction x generalizing y with
  | nil =>
    cases y with
    | nil => simp [Lib.compareBytes]
    | cons b y => simp [Lib.compareBytes, List.nil_lt_cons]
  | cons a x ih =>
    cases y with
    | nil => simp [Lib.compareBytes]
    | cons b y =>
      obtain ⟨i1, i2, i3⟩ := ih y
      rw [Lib.compareBytes]
      by_cases h1 : a < b
      · rw [if_pos h1]
        refine ⟨⟨fun _ => List.cons_lt_cons_iff.2 (.inl h1), fun _ => rfl⟩, ⟨fun h => absurd h (by decide), fun h => ?_⟩, .inl rfl⟩
        rw [(List.cons.inj h).1] at h1
        exact absurd h1 (UInt8.lt_irrefl b)
      · rw [if_neg h1]
        by_cases h2 : b < a
        · rw [if_pos h2]
          have hne : a ≠ b := fun e => by rw [e] at h2; exact UInt8.lt_irrefl b h2
          refine ⟨⟨fun h => absurd h (by decide), fun h => ?_⟩, ⟨fun h => absurd h (by decide), fun h => absurd (List.cons.inj h).1 hne⟩, .inr (.inr rfl)⟩
          rcases List.cons_lt_cons_iff.1 h with h | ⟨h, _⟩
          · exact absurd h h1
          · exact absurd h hne
        · rw [if_neg h2]
          have e : a = b := by
            rcases UInt8.lt_or_eq_of_le (UInt8.not_lt.1 h2) with h | h
            · exact absurd h h1
            · exact h
          subst e
          refine ⟨i1.trans ⟨fun h => List.cons_lt_cons_iff.2 (.inr ⟨rfl, h⟩), fun h => ?_⟩, i2.trans ⟨fun h => by rw [h], fun h => (List.cons.inj h).2⟩, i3⟩
          rcases List.cons_lt_cons_iff.1 h with h | ⟨_, h⟩
          · exact absurd h h1
          · exact h
theorem cmpK_neg (a b : ByteArray) : cmpK a b < 0 ↔ ltK a b = true := by
  obtain ⟨h1, h2, h3⟩ := compareBytes_lt a.data.toList b.data.toList
  rw [ltK_iff, ← h1]
  unfold cmpK
  rcases h3 with h | h | h <;> rw [h] <;> simp
theorem cmpK_zero (a b : ByteArray) : cmpK a b = 0 ↔ a = b := by
  obtain ⟨h1, h2, h3⟩ := compareBytes_lt a.data.toList b.data.toList
  unfold cmpK
  rw [h2]
  exact ⟨key_ext, fun h => by rw [h]⟩
/-- How many stand ahead at the front. -/
theorem tw_len {α : Type} (p : α → Bool) (l : List α) (m : Nat) (h1 : ∀ j y, j < m → l[j]? = some y → p y = true) (h2 : m ≤ l.length) (h3 : ∀ y, l[m]? = some y → p y = false) : (l.takeWhile p).length = m := by
  induction l generalizing m with
  | nil => have : m = 0 := by simpa using h2
           rw [this]; rfl
  | cons a l ih =>
    cases m with
    | zero => rw [List.takeWhile_cons, h3 a rfl]; rfl
    | succ m =>
      rw [List.takeWhile_cons, h1 0 a (by omega) rfl]
      simp only [if_true, List.length_cons]
      rw [ih m (fun j y hj hy => h1 (j + 1) y (by omega) (by simpa using hy)) (by simpa using h2) (fun y hy => h3 y (by simpa using hy))]
theorem tw_le {α : Type} (p : α → Bool) (l : List α) : (l.takeWhile p).length ≤ l.length := (List.takeWhile_sublist p).length_le
theorem tw_at {α : Type} (p : α → Bool) (l : List α) : (∀ j y, j < (l.takeWhile p).length → l[j]? = some y → p y = true) ∧ ∀ y, l[(l.takeWhile p).length]? = some y → p y = false := by
  induction l with
  | nil => exact ⟨fun j y hj => by simp at hj, fun y hy => by simp at hy⟩
  | cons a l ih =>
    rw [List.takeWhile_cons]
    cases h : p a with
    | false =>
      refine ⟨fun j y hj => by simp at hj, fun y hy => ?_⟩
      obtain rfl : a = y := by simpa using hy
      exact h
    | true =>
      simp only [if_true, List.length_cons]
      refine ⟨fun j y hj hy => ?_, fun y hy => ih.2 y (by simpa using hy)⟩
      cases j with
      | zero => obtain rfl : a = y := (by simpa using hy); exact h
      | succ j => exact ih.1 j y (by omega) (by simpa using hy)
/-- Does a text begin with s? -/
def preK (s x : ByteArray) : Bool := Lib.hasPrefix x.data.toList s.data.toList
theorem preK_raw (s x : ByteArray) : preK s x = (decide (s.size ≤ x.size) && ((x.extract 0 s.size).toList == s.toList)) := (Lib.hasPrefix_raw x s).symm
/-- From which place on those stand that begin with s; how many. -/
def bgF (l : List Wrd) (s : ByteArray) : Nat := (l.takeWhile (fun x => ltK x.1 s)).length
def bgN (l : List Wrd) (s : ByteArray) : Nat := ((l.drop (bgF l s)).takeWhile (fun x => preK s x.1)).length
theorem bgF_le (l : List Wrd) (s : ByteArray) : bgF l s ≤ l.length := tw_le _ _
theorem bgN_le (l : List Wrd) (s : ByteArray) : bgF l s + bgN l s ≤ l.length := by
  have h1 := bgF_le l s
  have h2 := tw_le (fun x : Wrd => preK s x.1) (l.drop (bgF l s))
  rw [List.length_drop] at h2
  unfold bgN; omega
theorem bgF_srt {l : List Wrd} (hs : SrtW l) (s : ByteArray) : (∀ j y, j < bgF l s → l[j]? = some y → ltK y.1 s = true) ∧ ∀ j y, bgF l s ≤ j → l[j]? = some y → ltK y.1 s = false := by
  obtain ⟨h1, h2⟩ := tw_at (fun x : Wrd => ltK x.1 s) l
  refine ⟨h1, fun j y hj hy => ?_⟩
  have hjl := (List.getElem?_eq_some_iff.1 hy).1
  have hb : bgF l s < l.length := Nat.lt_of_le_of_lt hj hjl
  have hz : l[bgF l s]? = some l[bgF l s] := List.getElem?_eq_getElem hb
  have h3 := h2 _ hz
  rcases Nat.lt_or_eq_of_le hj with h | h
  · cases h4 : ltK y.1 s with
    | false => rfl
    | true =>
      rw [ltK_on (srtW_at hs h hz hy) h4] at h3
      cases h3
  · have e : l[bgF l s]? = some y := by rw [h]; exact hy
    exact h2 y e
def wbgE (l : List Wrd) : Int := wisS l
def wbgF (l : List Wrd) (s : ByteArray) : Int := if wisS l = 0 then (bgF l s : Int) else 0
def wbgT (l : List Wrd) (s : ByteArray) : Int := if wisS l = 0 then (bgF l s : Int) + (bgN l s : Int) else 0
/-- Whether the word at a place is that text. -/
def isAt (l : List Wrd) (m : Nat) (k : ByteArray) : Bool := match l[m]? with
  | some y => decide (y.1 = k)
  | none => false
theorem isAt_frq {l : List Wrd} (hs : SrtW l) (hf : frB l) (k : ByteArray) : (isAt l (bgF l k) k = false → frq l k = 0) ∧ (∀ y, l[bgF l k]? = some y → y.1 = k → frq l k = y.2 ∧ frq l k ≠ 0) := by
  obtain ⟨h1, h2⟩ := bgF_srt hs k
  refine ⟨fun h => (frq_zero hf).2 (fun b hb e => ?_), fun y hy e => ?_⟩
  · obtain ⟨j, hj⟩ := List.getElem?_of_mem hb
    have hjf : bgF l k = j := by
      rcases Nat.lt_trichotomy j (bgF l k) with h3 | h3 | h3
      · have := h1 j b h3 hj
        rw [e, ltK_irrefl] at this; cases this
      · exact h3.symm
      · have hb : bgF l k < l.length := Nat.lt_trans h3 (List.getElem?_eq_some_iff.1 hj).1
        have hz : l[bgF l k]? = some l[bgF l k] := List.getElem?_eq_getElem hb
        have h4 := srtW_at hs h3 hz hj
        have h5 := h2 _ _ (Nat.le_refl _) hz
        rw [e, h5] at h4; cases h4
    unfold isAt at h
    rw [hjf, hj] at h
    simp [e] at h
  · subst e
    have hm := List.mem_of_getElem? hy
    have h3 := frq_srt hs hf y hm
    have h4 := (hf y hm).1
    exact ⟨h3, by omega⟩
end Go.Proofs.YtljaibhhkjapmaaDoor

/- Slices of structs, for any of them: a value that reads as a list whose elements have so many cells each; append of one. -/
namespace Go.Proofs.YtljaibhhkjapmaaDoor
open Go.RowKit

/-- All cells of a list, one behind the other. -/
def gCells {α : Type} (enc : α → List Value) (l : List α) : List Value := l.flatMap enc
theorem gCells_len {α : Type} {enc : α → List Value} {k : Nat} (hk : ∀ x, (enc x).length = k) (l : List α) : (gCells enc l).length = l.length * k := by
  induction l with
  | nil => simp [gCells]
  | cons x l ih =>
    show (enc x ++ gCells enc l).length = _
    rw [List.length_append, hk, ih, List.length_cons, Nat.succ_mul]; omega
theorem gCells_snoc {α : Type} (enc : α → List Value) (l : List α) (x : α) : gCells enc (l ++ [x]) = gCells enc l ++ enc x := by simp [gCells]
theorem gCells_append {α : Type} (enc : α → List Value) (l r : List α) : gCells enc (l ++ r) = gCells enc l ++ gCells enc r := by simp [gCells]
theorem gCells_at {α : Type} {enc : α → List Value} {k : Nat} (hk : ∀ x, (enc x).length = k) (l : List α) (j i : Nat) (x : α) (hj : l[j]? = some x) (hi : i < k) : (gCells enc l)[j * k + i]? = (enc x)[i]? := by
  induction l generalizing j with
  | nil => simp at hj
  | cons y l ih =>
    show (enc y ++ gCells enc l)[j * k + i]? = _
    cases j with
    | zero =>
      have e : y = x := by simpa using hj
      subst e
      rw [Nat.zero_mul, Nat.zero_add, List.getElem?_append_left (by rw [hk]; exact hi)]
    | succ j =>
      rw [List.getElem?_append_right (by rw [hk, Nat.succ_mul]; omega), hk, show (j + 1) * k + i - k = j * k + i by rw [Nat.succ_mul]; omega]
      exact ih j (by simpa using hj)

/-- The slice value v reads as the list l. -/
def GRuns {α : Type} (enc : α → List Value) (k : Nat) (w : World) (v : Value) (l : List α) : Prop :=
  ∃ A c, v = .slice A l.length c ∧ l.length ≤ c ∧ (c ≤ maxLen ∧ (A = none → c = 0)) ∧
    (0 < l.length → ∃ b o, A = some ⟨b, o, none⟩ ∧ b < w.heap.size ∧ ∀ j x, l[j]? = some x → ∀ i u, (enc x)[i]? = some u → w.cell? ⟨b, o + j * k + i, none⟩ = some u)
theorem GRuns.below {α : Type} {enc : α → List Value} {k : Nat} {w w' : World} {v : Value} {l : List α} (h : GRuns enc k w v l) (hb : Below w.heap.size w w') : GRuns enc k w' v l := by
  obtain ⟨A, c, e, hc, hm, hx⟩ := h
  refine ⟨A, c, e, hc, hm, fun h0 => ?_⟩
  obtain ⟨b, o, eA, hlt, hcell⟩ := hx h0
  exact ⟨b, o, eA, Nat.lt_of_lt_of_le hlt hb.size, fun j x hj i u hu => (hb.cell (p := ⟨b, _, none⟩) hlt).trans (hcell j x hj i u hu)⟩
theorem GRuns.nil_ {α : Type} (enc : α → List Value) (k : Nat) (w : World) : GRuns enc k w (.slice none 0 0) [] := ⟨none, 0, rfl, by simp, by simp [maxLen], fun h => absurd h (by simp)⟩
theorem GRuns.slice {α : Type} {enc : α → List Value} {k : Nat} {w : World} {v : Value} {l : List α} (h : GRuns enc k w v l) : ∃ A c, v = .slice A l.length c := by
  obtain ⟨A, c, e, _⟩ := h
  exact ⟨A, c, e⟩
/-- Element j's cells, where the length is named. -/
theorem GRuns.cells {α : Type} {enc : α → List Value} {k : Nat} {w : World} {A : Option Addr} {n c : Nat} {l : List α} (h : GRuns enc k w (.slice A n c) l) (hn : l.length = n) (h0 : 0 < n) :
    ∃ b o, A = some ⟨b, o, none⟩ ∧ b < w.heap.size ∧ ∀ j x, l[j]? = some x → ∀ i u, (enc x)[i]? = some u → w.cell? ⟨b, o + j * k + i, none⟩ = some u := by
  obtain ⟨A', c', e, _, _, hx⟩ := h
  rw [hn] at e hx
  obtain ⟨rfl, _, rfl⟩ := Value.slice.inj e
  exact hx h0
theorem GRuns.of_own {α : Type} {enc : α → List Value} {k : Nat} (hk : ∀ x, (enc x).length = k) {w : World} {base : Nat} {v : Value} {n : Nat} {l : List α} {e : TypeId} (hn : l.length = n) (h : w.ownsRow base e k v n (gCells enc l)) : GRuns enc k w v l := by
  obtain ⟨hlen, hv⟩ := h
  subst hn
  rcases hv with ⟨rfl, h0⟩ | ⟨g, cap, cur, rfl, _, hg, hle, hcap, hsz, htk⟩
  · exact ⟨none, 0, by rw [h0], by omega, by simp [maxLen], fun hp => absurd hp (by omega)⟩
  · refine ⟨_, cap, rfl, hle, ⟨hcap, fun h => by cases h⟩, fun _ => ⟨g, 0, rfl, (Array.getElem?_eq_some_iff.1 hg).1, fun j x hj i u hu => ?_⟩⟩
    have hi : i < k := by have := (List.getElem?_eq_some_iff.1 hu).1; rwa [hk] at this
    have hjl : j < l.length := (List.getElem?_eq_some_iff.1 hj).1
    rw [cell_of_row w g (0 + j * k + i) cur e (0, 0) hg]
    have h2 := gCells_at hk l j i x hj hi
    have hlt : j * k + i < l.length * k := by
      have := Nat.mul_le_mul_right k (show j + 1 ≤ l.length from hjl)
      rw [Nat.succ_mul] at this
      omega
    rw [← htk, List.getElem?_take, if_pos hlt, hu] at h2
    simpa using h2
/-- append(v, x) to a row of the call's own: the literal lies in a new block. -/
theorem append_one {P : Program} {α : Type} {enc : α → List Value} {k bytes : Nat} {tS tE : TypeId} {z : Value} (hk : ∀ x, (enc x).length = k) (h1 : ∀ x, ∀ u ∈ enc x, u.oneCell' = true) (hinfo : (P.info? tE).map (fun i => (i.zero, i.size, i.bytes)) = some (some z, k, bytes)) (hzl : z.cells.size = k) (hk0 : 0 < bytes) (hk1 : 0 < k)
    (hU : P.underlying tS = some (.slice tE)) (w : World) (base : Nat) (v : Value) (n : Nat) (xs : List Value) (hown : w.ownsRow base tE k v n xs) (x : α) (hbase : base ≤ w.heap.size) (hlen : (n + 1) * bytes ≤ 140737488355328) :
    ∃ v' w', (Builtin.append_ #[tS, tS] tS #[v, .slice (some ⟨w.heap.size, 0, none⟩) 1 1]).run P (w.alloc (.cells (enc x).toArray tE)) = .ok v' w' ∧ w'.ownsRow base tE k v' (n + 1) (xs ++ enc x) ∧
      (w.alloc (.cells (enc x).toArray tE)).grownBy w' v.ownBlock ∧ (v'.ownBlock = v.ownBlock ∨ v'.ownBlock = some (w.heap.size + 1)) := by
  obtain ⟨i0, hi, hz0, hz1, hz2⟩ := info_parts hinfo
  obtain ⟨v', w', hrun, h2, h3, _, h5⟩ := run_append_own_at (P := P) (w.alloc (.cells (enc x).toArray tE)) base tS tS tE i0 z k bytes hU hi hz0 hz1 hz2 hzl hk1 v n xs (hown.alloc _) ⟨w.heap.size, 0, none⟩ 1 1 (enc x) (by rw [hk]; simp)
    (fun j u hj => by
      have e : (⟨w.heap.size, 0, none⟩ : Addr).add j = ⟨w.heap.size, 0 + j, none⟩ := by unfold Addr.add; simp; omega
      rw [e, cell_of_row _ _ _ _ _ _ (heap_alloc_new w _)]
      simpa using hj) (h1 x) (by have : n + 1 ≤ (n + 1) * bytes := Nat.le_mul_of_pos_right _ hk0; unfold maxLen; omega) hlen (by simp; omega)
  exact ⟨v', w', hrun, h2, h3, by simpa using h5⟩

theorem take_set' {α : Type} (l : List α) (m j : Nat) (u : α) (h : j < m) : (l.set j u).take m = (l.take m).set j u := by
  apply List.ext_getElem?
  intro i
  rw [List.getElem?_take, List.getElem?_set, List.getElem?_set, List.getElem?_take, List.length_take]
  by_cases hi : i < m
  · simp only [hi, if_true]
    by_cases hij : j = i
    · subst hij
      have hm : (j < min m l.length) = (j < l.length) := propext (by omega)
      simp [hm]
    · simp [hij]
  · simp only [hi, if_false]
    rw [if_neg (by omega)]
/-- A store into a row of the call's own. -/
theorem own_store {w : World} {base : Nat} {e : TypeId} {size g cap n : Nat} {xs : List Value} (h : w.ownsRow base e size (.slice (some ⟨g, 0, none⟩) n cap) n xs) (j : Nat) (hj : j < n * size) (u : Value) :
    (w.setCell ⟨g, j, none⟩ u).ownsRow base e size (.slice (some ⟨g, 0, none⟩) n cap) n (xs.set j u) := by
  obtain ⟨hl, hv⟩ := h
  rcases hv with ⟨h0, _⟩ | ⟨g', cap', cur, e1, hb, hg, h1, h2, h3, h4⟩
  · cases h0
  · simp only [Value.slice.injEq, Option.some.injEq, Addr.mk.injEq] at e1
    obtain ⟨⟨rfl, _⟩, _, rfl⟩ := e1
    refine ⟨by simpa using hl, .inr ⟨g, cap, cur.setIfInBounds j u, rfl, hb, ?_, h1, h2, by simpa using h3, ?_⟩⟩
    · obtain ⟨hlt, hk⟩ := Array.getElem?_eq_some_iff.1 hg
      show (w.heap.modify g _)[g]? = _
      rw [Array.getElem?_eq_getElem (by rw [Array.size_modify]; exact hlt), Array.getElem_modify_self, hk]
      rfl
    · rw [Array.toList_setIfInBounds, take_set' _ _ _ _ hj, h4]
theorem own_thaw {w : World} {base : Nat} {e : TypeId} {size g cap n : Nat} {xs : List Value} (h : w.ownsRow base e size (.slice (some ⟨g, 0, none⟩) n cap) n xs) (j : Nat) : w.frozen? ⟨g, j, none⟩ = false := by
  rcases h.2 with ⟨h0, _⟩ | ⟨g', cap', cur, e1, hb, hg, h1, h2, h3, h4⟩
  · cases h0
  · simp only [Value.slice.injEq, Option.some.injEq, Addr.mk.injEq] at e1
    obtain ⟨⟨rfl, _⟩, _, rfl⟩ := e1
    simp [World.frozen?, hg]
/-- Rows of two kinds are two blocks. -/
theorem own_apart {w : World} {base base' : Nat} {e e' : TypeId} {size size' n n' : Nat} {v v' : Value} {xs xs' : List Value} (h : w.ownsRow base e size v n xs) (h' : w.ownsRow base' e' size' v' n' xs') (hne : e ≠ e') : v.ownBlock = none ∨ v.ownBlock ≠ v'.ownBlock := by
  rcases h.2 with ⟨rfl, _⟩ | ⟨g, cap, cur, rfl, hb, hg, h1, h2, h3, h4⟩
  · exact .inl rfl
  · rcases h'.2 with ⟨rfl, _⟩ | ⟨g', cap', cur', rfl, hb', hg', h1', h2', h3', h4'⟩
    · exact .inr (by simp [Value.ownBlock])
    · refine .inr fun e1 => ?_
      obtain rfl : g = g' := by simpa [Value.ownBlock] using e1
      rw [hg] at hg'
      simp only [Option.some.injEq, Obj.cells.injEq] at hg'
      exact hne hg'.2.1
theorem own_lt' {w : World} {base : Nat} {e : TypeId} {size n : Nat} {v : Value} {xs : List Value} (h : w.ownsRow base e size v n xs) : ∀ g, v.ownBlock = some g → g < w.heap.size := by
  intro g hg
  rcases h.2 with ⟨rfl, _⟩ | ⟨g', cap, cur, rfl, _, hh, _⟩
  · simp [Value.ownBlock] at hg
  · obtain rfl : g' = g := by simpa [Value.ownBlock] using hg
    exact (Array.getElem?_eq_some_iff.1 hh).1
end Go.Proofs.YtljaibhhkjapmaaDoor

/- append(v, u...) onto a row of the call's own, for rows of any structs. -/
namespace Go.Proofs.YtljaibhhkjapmaaDoor
open Go.RowKit

theorem append_many {P : Program} {α : Type} {enc : α → List Value} {k bytes : Nat} {tS tE : TypeId} {z : Value} (hk : ∀ x, (enc x).length = k) (h1 : ∀ x, ∀ u ∈ enc x, u.oneCell' = true) (hinfo : (P.info? tE).map (fun i => (i.zero, i.size, i.bytes)) = some (some z, k, bytes)) (hzl : z.cells.size = k) (hk0 : 0 < bytes) (hk1 : 0 < k)
    (hU : P.underlying tS = some (.slice tE)) (w : World) (base : Nat) (v : Value) (n : Nat) (xs : List Value) (hown : w.ownsRow base tE k v n xs) (u : Value) (ys : List α) (hu : GRuns enc k w u ys) (hbase : base ≤ w.heap.size) (hlen : (n + ys.length) * bytes ≤ 140737488355328) :
    ∃ v' w', (Builtin.append_ #[tS, tS] tS #[v, u]).run P w = .ok v' w' ∧ w'.ownsRow base tE k v' (n + ys.length) (xs ++ gCells enc ys) ∧
      w.grownBy w' v.ownBlock ∧ (v'.ownBlock = v.ownBlock ∨ v'.ownBlock = some w.heap.size) := by
  obtain ⟨i0, hi, hz0, hz1, hz2⟩ := info_parts hinfo
  obtain ⟨A, c, rfl, hxc, ⟨hxm, hc0⟩, hxx⟩ := hu
  cases A with
  | none =>
    obtain rfl := hc0 rfl
    have h0 : ys = [] := List.eq_nil_of_length_eq_zero (by omega)
    subst h0
    exact ⟨v, w, run_append_owned_none (P := P) (w := w) base tS tS tE i0 k hU hi v n xs hown, by simpa [gCells] using hown, World.grownBy.refl w _, .inl rfl⟩
  | some ad =>
    have hcells : ∀ j u, (gCells enc ys)[j]? = some u → w.cell? (ad.add j) = some u := by
      intro j u hj
      have hjl : j < (gCells enc ys).length := (List.getElem?_eq_some_iff.1 hj).1
      rw [gCells_len hk] at hjl
      have hq : j / k < ys.length := (Nat.div_lt_iff_lt_mul hk1).2 hjl
      obtain ⟨b, o, e, _, hc⟩ := hxx (Nat.lt_of_le_of_lt (Nat.zero_le _) hq)
      have e := Option.some.inj e
      subst e
      obtain ⟨x, hx⟩ : ∃ x, ys[j / k]? = some x := ⟨_, List.getElem?_eq_getElem hq⟩
      have h3 := gCells_at hk ys (j / k) (j % k) x hx (Nat.mod_lt _ hk1)
      have hdm : j / k * k + j % k = j := by rw [Nat.mul_comm]; exact Nat.div_add_mod j k
      rw [hdm, hj] at h3
      have h4 := hc (j / k) x hx (j % k) u h3.symm
      have ea : (⟨b, o, none⟩ : Addr).add j = ⟨b, o + j / k * k + j % k, none⟩ := by rw [Nat.add_assoc, hdm]; unfold Addr.add; simp <;> omega
      rw [ea]; exact h4
    have hone : ∀ u ∈ gCells enc ys, u.oneCell' = true := by
      intro u hu
      obtain ⟨p, _, hp⟩ := List.mem_flatMap.1 hu
      exact h1 p u hp
    obtain ⟨v', w', hrun, h2, h3, _, h5⟩ := run_append_own_at (P := P) w base tS tS tE i0 z k bytes hU hi hz0 hz1 hz2 hzl hk1 v n xs hown ad ys.length c (gCells enc ys) (gCells_len hk ys) hcells hone
      (by have : n + ys.length ≤ (n + ys.length) * bytes := Nat.le_mul_of_pos_right _ hk0; unfold maxLen; omega) hlen hbase
    exact ⟨v', w', hrun, h2, h3, h5⟩
end Go.Proofs.YtljaibhhkjapmaaDoor

/- The document's examples of layer 1 stand. -/
namespace Go.Proofs.YtljaibhhkjapmaaDoor
open Go.RowKit Go.Shelf

/-- The world holds the two tables, as old blocks. -/
def Okw (w : World) : Prop := Tabs w ∧ 1 < w.heap.size ∧ 2 < w.heap.size
theorem Okw.below {w w' : World} (h : Okw w) (hb : Below w.heap.size w w') : Okw w' := ⟨h.1.below hb, Nat.lt_of_lt_of_le h.2.1 hb.size, Nat.lt_of_lt_of_le h.2.2 hb.size⟩

end Go.Proofs.YtljaibhhkjapmaaDoor

/- The order of two lists of runes, as errataref01.Compare and Same tell it. -/
namespace Go.Proofs.YtljaibhhkjapmaaDoor
open Go.RowKit

set_option maxRecDepth 100000 in
set_option maxHeartbeats 1000000 in
theorem refCompare_any (u v : Value) (x y : List Int) (w : World) (hx : Runs w u x) (hy : Runs w v y) :
    Calls Tryd.prog 119 #[u, v] w fun e w' => e = .returned (.int .i64 (cmpL x y)) ∧ Drawn w w' := by
  obtain ⟨A, c, rfl, hxc, ⟨hxm, _⟩, hxx⟩ := hx
  obtain ⟨B, d, rfl, hyc, ⟨hym, _⟩, hyy⟩ := hy
  unfold maxLen at hxm hym
  obtain ⟨n, hn⟩ : ∃ n, x.length = n := ⟨_, rfl⟩
  obtain ⟨m, hm⟩ : ∃ m, y.length = m := ⟨_, rfl⟩
  rw [hn] at hxc hxx ⊢
  rw [hm] at hyc hyy ⊢
  have Hn := Lib.hid hn; clear hn
  have Hm := Lib.hid hm; clear hm
  have HX := Lib.hid hxx; clear hxx
  have HY := Lib.hid hyy; clear hyy
  go_enter Tryd.func119, Tryd.ntmps119
  go_wp2
  go_loopg [5] n (fun g s5 wr => ∃ k q : Nat, k ≤ n ∧ k ≤ m ∧ n - k ≤ g ∧ s5 = .int .i64 k ∧ wr = w.drewN q ∧ Hid (cmpL x y = cmpL (x.drop k) (y.drop k)))
  case atStart => exact ⟨0, 0, Nat.zero_le _, Nat.zero_le _, by omega, rfl, rfl, Lib.hid (by simp)⟩
  case round =>
    obtain ⟨k, q, hkn, hkm, hg, rfl, rfl, HC⟩ := hrel
    by_cases h1 : k < n
    · by_cases h2 : k < m
      · obtain ⟨b, o, rfl, hb, hc1⟩ := HX.out (by omega)
        obtain ⟨b', o', rfl, hb', hc2⟩ := HY.out (by omega)
        have e1 := hc1 k h1
        have e2 := hc2 k h2
        clear hc1 hc2
        obtain ⟨p, hp⟩ : ∃ p, x.getD k 0 = p := ⟨_, rfl⟩
        obtain ⟨r, hr⟩ : ∃ r, y.getD k 0 = r := ⟨_, rfl⟩
        have HC2 := Lib.hid (HC.out.trans (cmpL_drop (by rw [Hn.out]; exact h1) (by rw [Hm.out]; exact h2)))
        rw [hp, hr] at HC2
        rw [hp] at e1
        rw [hr] at e2
        clear hp hr
        have i1 : (k : Int) < (n : Int) := by omega
        have i2 : (k : Int) < (m : Int) := by omega
        by_cases l1 : p < r
        · go_wp2
          go_quiet (fail)
          go_wp2
          go_ret
          exact ⟨ret_int (by rw [HC2.out, if_pos (by omega)]), by first | exact Drawn.of2 _ _ _ | exact Drawn.of3 _ _ _ _⟩
        · by_cases l2 : r < p
          · go_wp2
            go_quiet (fail)
            go_wp2
            go_quiet (fail)
            go_wp2
            go_ret
            exact ⟨ret_int (by rw [HC2.out, if_neg (by omega), if_pos (by omega)]), by first | exact Drawn.of2 _ _ _ | exact Drawn.of3 _ _ _ _⟩
          · go_wp2
            go_quiet (fail)
            go_wp2
            go_quiet (fail)
            go_wp2
            go_roundg (n - (k + 1))
            case measure => omega
            case rel => exact ⟨k + 1, _, by omega, by omega, by omega, by go_num, by first | rfl | rw [World.drewN_drewN], Lib.hid (by rw [HC2.out, if_neg (by omega), if_neg (by omega)])⟩
      · obtain rfl : m = k := by omega
        have HC2 := Lib.hid (HC.out.trans (cmpL_gt (by simp [Hn.out]; omega) (by simp [Hm.out])))
        have i1 : ¬ ((n : Int) < (m : Int)) := by omega
        have i2 : ((m : Int) < (n : Int)) := by omega
        go_wp2
        go_ret
        exact ⟨ret_int (by rw [HC2.out]), Drawn.of _ _⟩
    · obtain rfl : n = k := by omega
      by_cases h2 : n < m
      · have HC2 := Lib.hid (HC.out.trans (cmpL_lt (by simp [Hn.out]) (by simp [Hm.out]; omega)))
        go_wp2
        go_ret
        exact ⟨ret_int (by rw [HC2.out]), Drawn.of _ _⟩
      · obtain rfl : n = m := by omega
        have HC2 := Lib.hid (HC.out.trans (show cmpL (x.drop n) (y.drop n) = 0 from cmpL_eq.2 (by rw [List.drop_of_length_le (by rw [Hn.out]; exact Nat.le_refl _), List.drop_of_length_le (by rw [Hm.out]; exact Nat.le_refl _)])))
        go_wp2
        go_ret
        exact ⟨ret_int (by rw [HC2.out]), Drawn.of _ _⟩

set_option maxHeartbeats 1000000 in
theorem same_any (u v : Value) (x y : List Int) (w : World) (hx : Runs w u x) (hy : Runs w v y) :
    Calls Tryd.prog 106 #[u, v] w fun e w' => e = .returned (.bool (decide (x = y))) ∧ Drawn w w' := by
  have hq : (cmpL x y == 0) = decide (x = y) := by rw [Bool.eq_iff_iff]; simp [cmpL_eq]
  obtain ⟨z, hz⟩ : ∃ z, cmpL x y = z := ⟨_, rfl⟩
  rw [hz] at hq
  have Hq := Lib.hid hq; clear hq
  have c := refCompare_any u v x y w hx hy
  rw [hz] at c
  clear hz
  have C := Lib.hid c; clear c
  go_enter Tryd.func106, Tryd.ntmps106
  go_wp2_with fail
  refine C.out.mono ?_
  rintro e w' ⟨rfl, hd⟩
  go_wp2
  go_ret
  exact ⟨ret_bool Hq.out, hd⟩
end Go.Proofs.YtljaibhhkjapmaaDoor

