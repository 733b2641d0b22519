/- Texts that several proofs of this seat share, one behind the other: BLess BOrderP CPlain CLawP RPlain RLawP MPlace MRule. -/
import Derived.Test.YtbbkkoeipkigdaaDoorPk5
import Derived.Test.YtbbkkoeipkigdaaDoorPk1
import Derived.Sort.Walk0
/- errataref05.Less, Same: which of two blocks stands ahead; whether two rows of blocks are the same. -/
namespace Go.Proofs.YtbbkkoeipkigdaaDoor
open Go.RowKit Go.Shelf

theorem toList_ext {a b : ByteArray} (h : a.toList = b.toList) : a = b := by
  have : a.data.toList = b.data.toList := by rw [Lib.toList_data, Lib.toList_data] at *; simpa using h
  cases a; cases b; congr 1; exact Array.toList_inj.1 this
/-- Does a block stand ahead of another one? -/
def lessB (a b : Blk) : Bool := if Op.bytesLess a.1.toList b.1.toList = true then true else if a.1.toList = b.1.toList then Op.bytesLess a.2.1.toList b.2.1.toList else false

/-- A row of blocks. -/
abbrev BRuns (w : World) (v : Value) (l : List Blk) : Prop := GRuns blkCell 3 w v l
def blk0 : Blk := (⟨#[]⟩, ⟨#[]⟩, 0)
theorem blk_cells {w : World} {b o j : Nat} {x : Blk} {l : List Blk} (h : ∀ j x, l[j]? = some x → ∀ i u, (blkCell x)[i]? = some u → w.cell? ⟨b, o + j * 3 + i, none⟩ = some u) (hj : l[j]? = some x) :
    w.cell? ⟨b, o + j * 3, none⟩ = some (.string x.1) ∧ w.cell? ⟨b, o + j * 3 + 1, none⟩ = some (.string x.2.1) ∧ w.cell? ⟨b, o + j * 3 + 2, none⟩ = some (.int .i64 x.2.2) :=
  ⟨h j x hj 0 _ rfl, h j x hj 1 _ rfl, h j x hj 2 _ rfl⟩
end Go.Proofs.YtbbkkoeipkigdaaDoor

/- Blocks stand in order: of two just one stands ahead, or both sides are the same; of three it goes on. -/
namespace Go.Proofs.YtbbkkoeipkigdaaDoor
open Go.RowKit Go.Shelf

theorem u8_tri (x y : List UInt8) (h1 : ¬ x < y) (h2 : ¬ y < x) : x = y := List.le_antisymm (List.not_lt.1 h2) (List.not_lt.1 h1)
theorem lessB_iff (a b : Blk) : lessB a b = true ↔ a.1.toList < b.1.toList ∨ (a.1.toList = b.1.toList ∧ a.2.1.toList < b.2.1.toList) := by
  unfold lessB
  simp only [Go.Proofs.bytesLess_eq, decide_eq_true_eq]
  by_cases h1 : a.1.toList < b.1.toList
  · simp [h1]
  · by_cases h2 : a.1.toList = b.1.toList
    · simp [h2, List.lt_irrefl]
    · simp [h1, h2]
/-- The same sides. -/
def sameS (a b : Blk) : Prop := a.1 = b.1 ∧ a.2.1 = b.2.1
theorem less_one (a b : Blk) : (lessB a b = true ∧ lessB b a = false ∧ ¬ sameS a b) ∨ (lessB a b = false ∧ lessB b a = true ∧ ¬ sameS a b) ∨ (lessB a b = false ∧ lessB b a = false ∧ sameS a b) := by
  have i1 := lessB_iff a b
  have i2 := lessB_iff b a
  have ir : ∀ x : List UInt8, ¬ x < x := List.lt_irrefl
  have asy : ∀ x y : List UInt8, x < y → ¬ y < x := fun x y h k => ir x (List.lt_trans h k)
  cases h1 : lessB a b with
  | true =>
    left
    refine ⟨rfl, ?_, ?_⟩
    · cases h2 : lessB b a with
      | false => rfl
      | true =>
        exfalso
        rcases i1.1 h1 with k1 | ⟨e1, k1⟩
        · rcases i2.1 h2 with k2 | ⟨e2, k2⟩
          · exact asy _ _ k1 k2
          · rw [e2] at k1; exact ir _ k1
        · rcases i2.1 h2 with k2 | ⟨e2, k2⟩
          · rw [e1] at k2; exact ir _ k2
          · exact asy _ _ k1 k2
    · rintro ⟨e1, e2⟩
      rcases i1.1 h1 with k1 | ⟨_, k1⟩
      · rw [e1] at k1; exact ir _ k1
      · rw [e2] at k1; exact ir _ k1
  | false =>
    right
    have n1 : ¬ (a.1.toList < b.1.toList ∨ (a.1.toList = b.1.toList ∧ a.2.1.toList < b.2.1.toList)) := fun h => by rw [i1.2 h] at h1; cases h1
    cases h2 : lessB b a with
    | true =>
      left
      refine ⟨rfl, rfl, ?_⟩
      rintro ⟨e1, e2⟩
      rcases i2.1 h2 with k2 | ⟨_, k2⟩
      · rw [e1] at k2; exact ir _ k2
      · rw [e2] at k2; exact ir _ k2
    | false =>
      right
      have n2 : ¬ (b.1.toList < a.1.toList ∨ (b.1.toList = a.1.toList ∧ b.2.1.toList < a.2.1.toList)) := fun h => by rw [i2.2 h] at h2; cases h2
      have e1 : a.1.toList = b.1.toList := u8_tri _ _ (fun h => n1 (.inl h)) (fun h => n2 (.inl h))
      have e2 : a.2.1.toList = b.2.1.toList := u8_tri _ _ (fun h => n1 (.inr ⟨e1, h⟩)) (fun h => n2 (.inr ⟨e1.symm, h⟩))
      exact ⟨rfl, rfl, toList_ext e1, toList_ext e2⟩
theorem less_on (a b c : Blk) (h1 : lessB a b = true) (h2 : lessB b c = true) : lessB a c = true := by
  rw [lessB_iff] at h1 h2 ⊢
  rcases h1 with k1 | ⟨e1, k1⟩
  · rcases h2 with k2 | ⟨e2, k2⟩
    · exact .inl (List.lt_trans k1 k2)
    · exact .inl (e2 ▸ k1)
  · rcases h2 with k2 | ⟨e2, k2⟩
    · exact .inl (e1 ▸ k2)
    · exact .inr ⟨e1.trans e2, List.lt_trans k1 k2⟩
end Go.Proofs.YtbbkkoeipkigdaaDoor

/- Blocks counted, plain: rows in order, how often each is there, blocks gathered. -/
namespace Go.Proofs.YtbbkkoeipkigdaaDoor
open Go.RowKit Go.Shelf

theorem less_irrefl (a : Blk) : lessB a a = false := by
  rcases less_one a a with ⟨h1, h2, _⟩ | ⟨h1, h2, _⟩ | ⟨h1, _, _⟩
  · rw [h1] at h2; cases h2
  · exact h1
  · exact h1
theorem less_not {a b : Blk} (h : lessB a b = true) : lessB b a = false ∧ ¬ sameS a b := by
  rcases less_one a b with ⟨_, h2, h3⟩ | ⟨h1, _, _⟩ | ⟨h1, _, _⟩
  · exact ⟨h2, h3⟩
  · rw [h] at h1; cases h1
  · rw [h] at h1; cases h1
theorem less_key {a b c d : Blk} (h1 : sameS a c) (h2 : sameS b d) : lessB a b = lessB c d := by
  unfold lessB; rw [h1.1, h1.2, h2.1, h2.2]
theorem sameS_symm {a b : Blk} (h : sameS a b) : sameS b a := ⟨h.1.symm, h.2.symm⟩
instance (a b : Blk) : Decidable (sameS a b) := by unfold sameS; exact inferInstance

/-- Blocks stand in order, no two of one From and To. -/
def Srt : List Blk → Prop
  | [] => True
  | a :: l => (∀ b ∈ l, lessB a b = true) ∧ Srt l
/-- How often a block of such a From and To is there. -/
def cnt (l : List Blk) (k : Blk) : Int := (l.map (fun b => if sameS b k then b.2.2 else 0)).sum
theorem cnt_nil (k : Blk) : cnt [] k = 0 := rfl
theorem cnt_cons (a : Blk) (l : List Blk) (k : Blk) : cnt (a :: l) k = (if sameS a k then a.2.2 else 0) + cnt l k := by simp [cnt]
theorem cnt_append (a b : List Blk) (k : Blk) : cnt (a ++ b) k = cnt a k + cnt b k := by simp [cnt]
theorem cnt_none {l : List Blk} {k : Blk} (h : ∀ b ∈ l, ¬ sameS b k) : cnt l k = 0 := by
  induction l with
  | nil => rfl
  | cons a l ih => rw [cnt_cons, if_neg (h a (by simp)), ih (fun b hb => h b (by simp [hb]))]; rfl
/-- The Ns together. -/
def sumN (l : List Blk) : Int := (l.map (fun b => b.2.2)).sum
theorem sumN_cons (a : Blk) (l : List Blk) : sumN (a :: l) = a.2.2 + sumN l := by simp [sumN]
theorem sumN_append (a b : List Blk) : sumN (a ++ b) = sumN a + sumN b := by simp [sumN]
def posN (l : List Blk) : Prop := ∀ b ∈ l, 1 ≤ b.2.2

theorem srt_cons_cnt {a : Blk} {l : List Blk} (h : Srt (a :: l)) : cnt l a = 0 := cnt_none (fun b hb e => (less_not (h.1 b hb)).2 (sameS_symm e))
theorem srt_below {a k : Blk} {l : List Blk} (h : Srt (a :: l)) (hk : lessB k a = true) : cnt (a :: l) k = 0 :=
  cnt_none (fun b hb => by
    rcases List.mem_cons.1 hb with rfl | hb
    · exact fun e => (less_not hk).2 (sameS_symm e)
    · exact fun e => (less_not (less_on k a b hk (h.1 b hb))).2 (sameS_symm e))
/-- Two rows in order that count the same are the same. -/
theorem srt_ext {a b : List Blk} (ha : Srt a) (hb : Srt b) (pa : posN a) (pb : posN b) (h : ∀ k, cnt a k = cnt b k) : a = b := by
  induction a generalizing b with
  | nil =>
    cases b with
    | nil => rfl
    | cons y b =>
      exfalso
      have h1 := h y
      rw [cnt_nil, cnt_cons, if_pos ⟨rfl, rfl⟩, srt_cons_cnt hb] at h1
      have := pb y (by simp)
      omega
  | cons x a ih =>
    cases b with
    | nil =>
      exfalso
      have h1 := h x
      rw [cnt_nil, cnt_cons, if_pos ⟨rfl, rfl⟩, srt_cons_cnt ha] at h1
      have := pa x (by simp)
      omega
    | cons y b =>
      have px := pa x (by simp)
      have py := pb y (by simp)
      rcases less_one x y with ⟨h1, _, _⟩ | ⟨_, h1, _⟩ | ⟨_, _, h1⟩
      · exfalso
        have h2 := h x
        rw [srt_below hb h1, cnt_cons, if_pos ⟨rfl, rfl⟩, srt_cons_cnt ha] at h2
        omega
      · exfalso
        have h2 := h y
        rw [srt_below ha h1, cnt_cons, if_pos ⟨rfl, rfl⟩, srt_cons_cnt hb] at h2
        omega
      · have h2 := h x
        rw [cnt_cons, if_pos ⟨rfl, rfl⟩, srt_cons_cnt ha, cnt_cons, if_pos (sameS_symm h1)] at h2
        have h3 : cnt b x = 0 := cnt_none (fun z hz e => (less_not (hb.1 z hz)).2 ⟨h1.1.symm.trans e.1.symm, h1.2.symm.trans e.2.symm⟩)
        rw [h3] at h2
        have exy : x = y := by
          obtain ⟨x1, x2, x3⟩ := x
          obtain ⟨y1, y2, y3⟩ := y
          obtain ⟨e1, e2⟩ := h1
          simp only at e1 e2 h2
          subst e1 e2
          have : x3 = y3 := by omega
          subst this; rfl
        subst exy
        rw [ih ha.2 hb.2 (fun z hz => pa z (by simp [hz])) (fun z hz => pb z (by simp [hz])) (fun k => by
          have h5 := h k
          rw [cnt_cons, cnt_cons] at h5
          omega)]

/-- A block more among blocks in order. -/
def insB (b : Blk) : List Blk → List Blk
  | [] => [b]
  | x :: t => if lessB x b = true then x :: insB b t else if sameS x b then (x.1, x.2.1, x.2.2 + b.2.2) :: t else b :: x :: t
theorem ins_cnt (b : Blk) (l : List Blk) (k : Blk) : cnt (insB b l) k = cnt l k + if sameS b k then b.2.2 else 0 := by
  induction l with
  | nil => rw [insB, cnt_cons, cnt_nil]; omega
  | cons x t ih =>
    rw [insB]
    split
    · rw [cnt_cons, cnt_cons, ih]; omega
    · split
      · rename_i h
        rw [cnt_cons, cnt_cons]
        by_cases hk : sameS x k
        · have hk' : sameS b k := ⟨h.1.symm.trans hk.1, h.2.symm.trans hk.2⟩
          rw [if_pos hk, if_pos hk', if_pos (show sameS (x.1, x.2.1, x.2.2 + b.2.2) k from hk)]
          simp only
          omega
        · have hk' : ¬ sameS b k := fun e => hk ⟨h.1.trans e.1, h.2.trans e.2⟩
          rw [if_neg hk, if_neg hk', if_neg (show ¬ sameS (x.1, x.2.1, x.2.2 + b.2.2) k from hk)]
          omega
      · rw [cnt_cons, cnt_cons]; omega
theorem ins_sum (b : Blk) (l : List Blk) : sumN (insB b l) = sumN l + b.2.2 := by
  induction l with
  | nil => simp [insB, sumN]
  | cons x t ih =>
    rw [insB]
    split
    · rw [sumN_cons, sumN_cons, ih]; omega
    · split
      · rw [sumN_cons, sumN_cons]; simp only; omega
      · rw [sumN_cons, sumN_cons]; omega
theorem ins_pos {b : Blk} {l : List Blk} (hb : 1 ≤ b.2.2) (hl : posN l) : posN (insB b l) := by
  induction l with
  | nil => intro z hz; rw [insB] at hz; obtain rfl : z = b := (by simpa using hz); exact hb
  | cons x t ih =>
    have hx := hl x (by simp)
    have ht : posN t := fun z hz => hl z (by simp [hz])
    rw [insB]
    split
    · intro z hz
      rcases List.mem_cons.1 hz with rfl | hz
      · exact hx
      · exact ih ht z hz
    · split
      · intro z hz
        rcases List.mem_cons.1 hz with rfl | hz
        · simp only; omega
        · exact ht z hz
      · intro z hz
        rcases List.mem_cons.1 hz with rfl | hz
        · exact hb
        · exact hl z hz
/-- All of a row with a block more have the key of the block, or of one that was there. -/
theorem ins_keys (b : Blk) (l : List Blk) : ∀ z ∈ insB b l, sameS z b ∨ ∃ y ∈ l, sameS z y := by
  induction l with
  | nil => intro z hz; rw [insB] at hz; obtain rfl : z = b := (by simpa using hz); exact .inl ⟨rfl, rfl⟩
  | cons x t ih =>
    intro z hz
    rw [insB] at hz
    split at hz
    · rcases List.mem_cons.1 hz with rfl | hz
      · exact .inr ⟨z, by simp, rfl, rfl⟩
      · rcases ih z hz with h | ⟨y, hy, h⟩
        · exact .inl h
        · exact .inr ⟨y, by simp [hy], h⟩
    · split at hz
      · rcases List.mem_cons.1 hz with rfl | hz
        · exact .inr ⟨x, by simp, rfl, rfl⟩
        · exact .inr ⟨z, by simp [hz], rfl, rfl⟩
      · rcases List.mem_cons.1 hz with rfl | hz
        · exact .inl ⟨rfl, rfl⟩
        · exact .inr ⟨z, hz, rfl, rfl⟩
theorem ins_srt {b : Blk} {l : List Blk} (hl : Srt l) : Srt (insB b l) := by
  induction l with
  | nil => rw [insB]; exact ⟨fun z hz => by simp at hz, trivial⟩
  | cons x t ih =>
    rw [insB]
    split
    · rename_i h
      refine ⟨fun z hz => ?_, ih hl.2⟩
      rcases ins_keys b t z hz with e | ⟨y, hy, e⟩
      · rw [less_key ⟨rfl, rfl⟩ e]; exact h
      · rw [less_key ⟨rfl, rfl⟩ e]; exact hl.1 y hy
    · split
      · refine ⟨fun z hz => ?_, hl.2⟩
        exact (less_key (a := (x.1, x.2.1, x.2.2 + b.2.2)) (c := x) ⟨rfl, rfl⟩ ⟨rfl, rfl⟩).trans (hl.1 z hz)
      · rename_i h1 h2
        have hbx : lessB b x = true := by
          rcases less_one x b with ⟨h, _, _⟩ | ⟨_, h, _⟩ | ⟨_, _, h⟩
          · exact absurd h h1
          · exact h
          · exact absurd h h2
        refine ⟨fun z hz => ?_, hl⟩
        rcases List.mem_cons.1 hz with rfl | hz
        · exact hbx
        · exact less_on b x z hbx (hl.1 z hz)
/-- Blocks gathered: each once, in order. -/
def gat (l : List Blk) : List Blk := l.foldl (fun out b => insB b out) []
theorem gat_snoc (l : List Blk) (b : Blk) : gat (l ++ [b]) = insB b (gat l) := by simp [gat]
theorem foldl_facts (l out : List Blk) (ho : Srt out) : Srt (l.foldl (fun out b => insB b out) out) ∧ (∀ k, cnt (l.foldl (fun out b => insB b out) out) k = cnt out k + cnt l k) ∧ sumN (l.foldl (fun out b => insB b out) out) = sumN out + sumN l := by
  induction l generalizing out with
  | nil => exact ⟨ho, fun k => by rw [cnt_nil]; simp, by simp [sumN]⟩
  | cons b l ih =>
    obtain ⟨h1, h2, h3⟩ := ih (insB b out) (ins_srt ho)
    refine ⟨h1, fun k => ?_, ?_⟩
    · rw [List.foldl_cons, h2 k, ins_cnt, cnt_cons]; omega
    · rw [List.foldl_cons, h3, ins_sum, sumN_cons]; omega
theorem foldl_pos (l out : List Blk) (ho : posN out) (hl : posN l) : posN (l.foldl (fun out b => insB b out) out) := by
  induction l generalizing out with
  | nil => exact ho
  | cons b l ih => exact ih (insB b out) (ins_pos (hl b (by simp)) ho) (fun z hz => hl z (by simp [hz]))
theorem gat_srt (l : List Blk) : Srt (gat l) := (foldl_facts l [] trivial).1
theorem gat_cnt (l : List Blk) (k : Blk) : cnt (gat l) k = cnt l k := by have := (foldl_facts l [] trivial).2.1 k; rw [cnt_nil] at this; unfold gat; omega
theorem gat_sum (l : List Blk) : sumN (gat l) = sumN l := by have := (foldl_facts l [] trivial).2.2; unfold gat; rw [this]; simp [sumN]
theorem gat_pos {l : List Blk} (h : posN l) : posN (gat l) := foldl_pos l [] (fun z hz => by simp at hz) h
/-- What is in order, and counts as a list does, is that list gathered. -/
theorem gat_uniq {l t : List Blk} (hl : posN l) (ht : Srt t) (pt : posN t) (h : ∀ k, cnt t k = cnt l k) : t = gat l :=
  srt_ext ht (gat_srt l) pt (gat_pos hl) (fun k => by rw [h k, gat_cnt])
theorem gat_perm {l m : List Blk} (hl : posN l) (hm : posN m) (h : ∀ k, cnt l k = cnt m k) : gat l = gat m :=
  gat_uniq hm (gat_srt l) (gat_pos hl) (fun k => by rw [gat_cnt, h k])
theorem gat_self {l : List Blk} (hl : posN l) (hs : Srt l) : gat l = l := (gat_uniq hl hs hl (fun _ => rfl)).symm
theorem gat_two {l m : List Blk} (hl : posN l) (hm : posN m) : gat (gat l ++ gat m) = gat (l ++ m) :=
  gat_perm (fun z hz => by rcases List.mem_append.1 hz with h | h; exact gat_pos hl z h; exact gat_pos hm z h) (fun z hz => by rcases List.mem_append.1 hz with h | h; exact hl z h; exact hm z h) (fun k => by rw [cnt_append, cnt_append, gat_cnt, gat_cnt])
theorem gat_swap {l m : List Blk} (hl : posN l) (hm : posN m) : gat (l ++ m) = gat (m ++ l) :=
  gat_perm (fun z hz => by rcases List.mem_append.1 hz with h | h; exact hl z h; exact hm z h) (fun z hz => by rcases List.mem_append.1 hz with h | h; exact hm z h; exact hl z h) (fun k => by rw [cnt_append, cnt_append]; omega)
theorem ins_len (b : Blk) (l : List Blk) : (insB b l).length ≤ l.length + 1 := by
  induction l with
  | nil => simp [insB]
  | cons x t ih =>
    rw [insB]
    split
    · simp only [List.length_cons]; omega
    · split
      · simp
      · simp
theorem foldl_len (l out : List Blk) : (l.foldl (fun out b => insB b out) out).length ≤ out.length + l.length := by
  induction l generalizing out with
  | nil => simp
  | cons b l ih =>
    have h1 := ih (insB b out)
    have h2 := ins_len b out
    rw [List.foldl_cons, List.length_cons]; omega
theorem gat_len (l : List Blk) : (gat l).length ≤ l.length := by have := foldl_len l []; unfold gat; simpa using this
end Go.Proofs.YtbbkkoeipkigdaaDoor

/- Tables of blocks, plain: what the document answers, and what follows. -/
namespace Go.Proofs.YtbbkkoeipkigdaaDoor
open Go.RowKit Go.Shelf

/-- Why the first block that may not be may not, or 0. -/
def chkAll : List Blk → Int
  | [] => 0
  | b :: l => if chkS b = 0 then chkAll l else chkS b
theorem chkAll_zero {l : List Blk} : chkAll l = 0 ↔ ∀ b ∈ l, chkS b = 0 := by
  induction l with
  | nil => simp [chkAll]
  | cons a l ih =>
    rw [chkAll]
    split
    · rename_i h
      rw [ih]
      constructor
      · intro h2 b hb
        rcases List.mem_cons.1 hb with rfl | hb
        · exact h
        · exact h2 b hb
      · exact fun h2 b hb => h2 b (by simp [hb])
    · rename_i h
      constructor
      · exact fun h2 => absurd h2 h
      · exact fun h2 => absurd (h2 a (by simp)) h
theorem chkAll_append (a b : List Blk) : chkAll (a ++ b) = if chkAll a = 0 then chkAll b else chkAll a := by
  induction a with
  | nil => simp [chkAll]
  | cons x a ih =>
    rw [List.cons_append, chkAll, chkAll]
    split
    · exact ih
    · rfl
theorem chkS_n {b : Blk} (h : chkS b = 0) : 1 ≤ b.2.2 ∧ b.2.2 ≤ 1073741824 := by
  unfold chkS at h
  split at h
  · split at h
    · cases h
    · split at h
      · cases h
      · split at h
        · cases h
        · omega
  · cases h
/-- A block that may be, with another N. -/
theorem chkS_other {b : Blk} (h : chkS b = 0) (n : Int) (h1 : 1 ≤ n) (h2 : n ≤ 1073741824) : chkS (b.1, b.2.1, n) = 0 := by
  unfold chkS at h ⊢
  split at h
  · rename_i hv
    split at h
    · cases h
    · rename_i hl
      split at h
      · cases h
      · rename_i hn
        simp only
        rw [if_pos hv, if_neg hl, if_neg hn, if_neg (by omega)]
  · cases h
theorem posN_of {l : List Blk} (h : chkAll l = 0) : posN l := fun b hb => (chkS_n (chkAll_zero.1 h b hb)).1

/-- Each stands ahead of the next one. -/
def ordB : List Blk → Bool
  | [] => true
  | a :: l => (match l.head? with | none => true | some b => lessB a b) && ordB l
theorem ordB_srt (l : List Blk) : ordB l = true ↔ Srt l := by
  induction l with
  | nil => simp [ordB, Srt]
  | cons a l ih =>
    rw [ordB, Bool.and_eq_true, ih]
    cases l with
    | nil => simp [Srt]
    | cons b l =>
      constructor
      · rintro ⟨h1, h2⟩
        refine ⟨fun z hz => ?_, h2⟩
        rcases List.mem_cons.1 hz with rfl | hz
        · exact h1
        · exact less_on a b z h1 (h2.1 z hz)
      · exact fun h => ⟨h.1 b (by simp), h.2⟩
/-- Whether a table may be. -/
def chkT (l : List Blk) : Int := if chkAll l = 0 then (if ordB l then (if 4096 < l.length ∨ 1073741824 < sumN l then 6 else 0) else 7) else chkAll l
def totS (l : List Blk) : Int := if chkT l = 0 then sumN l else 0
def finS (l : List Blk) (k : Blk) : Int := if chkT l = 0 then cnt l k else 0
def tabE (l : List Blk) : Int := if chkAll l = 0 then (if 4096 < (gat l).length ∨ 1073741824 < sumN l then 6 else 0) else chkAll l
def tabS (l : List Blk) : List Blk := if tabE l = 0 then gat l else []
def merE (a b : List Blk) : Int := if chkT a = 0 then (if chkT b = 0 then tabE (a ++ b) else chkT b) else chkT a
def merS (a b : List Blk) : List Blk := if merE a b = 0 then gat (a ++ b) else []
theorem chkT_facts {l : List Blk} (h : chkT l = 0) : chkAll l = 0 ∧ Srt l ∧ l.length ≤ 4096 ∧ sumN l ≤ 1073741824 := by
  unfold chkT at h
  split at h
  · rename_i h0
    split at h
    · rename_i h1
      split at h
      · cases h
      · exact ⟨h0, (ordB_srt l).1 h1, by omega, by omega⟩
    · cases h
  · rename_i h0; exact absurd h h0
theorem chkT_of {l : List Blk} (h1 : chkAll l = 0) (h2 : Srt l) (h3 : l.length ≤ 4096) (h4 : sumN l ≤ 1073741824) : chkT l = 0 := by
  unfold chkT; rw [if_pos h1, if_pos ((ordB_srt l).2 h2), if_neg (by omega)]
theorem tabE_facts {l : List Blk} (h : tabE l = 0) : chkAll l = 0 ∧ (gat l).length ≤ 4096 ∧ sumN l ≤ 1073741824 := by
  unfold tabE at h
  split at h
  · rename_i h0
    split at h
    · cases h
    · exact ⟨h0, by omega, by omega⟩
  · rename_i h0; exact absurd h h0
theorem tabE_of {l : List Blk} (h1 : chkAll l = 0) (h2 : (gat l).length ≤ 4096) (h3 : sumN l ≤ 1073741824) : tabE l = 0 := by
  unfold tabE; rw [if_pos h1, if_neg (by omega)]

theorem sumN_nonneg {l : List Blk} (h : posN l) : 0 ≤ sumN l := by
  induction l with
  | nil => simp [sumN]
  | cons a l ih =>
    have h1 := h a (by simp)
    have h2 := ih (fun z hz => h z (by simp [hz]))
    rw [sumN_cons]; omega
theorem mem_sumN {l : List Blk} (h : posN l) : ∀ b ∈ l, b.2.2 ≤ sumN l := by
  induction l with
  | nil => simp
  | cons a l ih =>
    intro b hb
    have h1 := h a (by simp)
    have h2 : posN l := fun z hz => h z (by simp [hz])
    have h3 := sumN_nonneg h2
    rw [sumN_cons]
    rcases List.mem_cons.1 hb with rfl | hb
    · omega
    · have := ih h2 b hb; omega
theorem gat_keys (l out : List Blk) : ∀ z ∈ l.foldl (fun out b => insB b out) out, (∃ y ∈ l, sameS z y) ∨ ∃ y ∈ out, sameS z y := by
  induction l generalizing out with
  | nil => exact fun z hz => .inr ⟨z, hz, rfl, rfl⟩
  | cons b l ih =>
    intro z hz
    rcases ih (insB b out) z hz with ⟨y, hy, h⟩ | ⟨y, hy, h⟩
    · exact .inl ⟨y, by simp [hy], h⟩
    · rcases ins_keys b out y hy with h2 | ⟨x, hx, h2⟩
      · exact .inl ⟨b, by simp, h.1.trans h2.1, h.2.trans h2.2⟩
      · exact .inr ⟨x, hx, h.1.trans h2.1, h.2.trans h2.2⟩
/-- What is gathered of blocks that may be may be. -/
theorem gat_chk {l : List Blk} (h : chkAll l = 0) (hs : sumN l ≤ 1073741824) : chkAll (gat l) = 0 := by
  refine chkAll_zero.2 (fun z hz => ?_)
  have hp := gat_pos (posN_of h)
  have h1 := hp z hz
  have h2 := mem_sumN hp z hz
  rw [gat_sum] at h2
  rcases gat_keys l [] z hz with ⟨y, hy, e⟩ | ⟨y, hy, _⟩
  · have h3 := chkS_other (chkAll_zero.1 h y hy) z.2.2 h1 (by omega)
    rw [← e.1, ← e.2] at h3
    exact h3
  · simp at hy
/-- A table may be. -/
theorem tab_chk {l : List Blk} (h : tabE l = 0) : chkT (gat l) = 0 := by
  obtain ⟨h1, h2, h3⟩ := tabE_facts h
  exact chkT_of (gat_chk h1 h3) (gat_srt l) h2 (by rw [gat_sum]; exact h3)
/-- In whatever order blocks come. -/
theorem tab_swap (a b : List Blk) : (tabE (a ++ b) = 0 ↔ tabE (b ++ a) = 0) ∧ (tabE (a ++ b) = 0 → tabS (a ++ b) = tabS (b ++ a)) := by
  have key : ∀ a b : List Blk, tabE (a ++ b) = 0 → tabE (b ++ a) = 0 ∧ gat (a ++ b) = gat (b ++ a) := fun a b h => by
    obtain ⟨h1, h2, h3⟩ := tabE_facts h
    have ha : ∀ x ∈ a ++ b, chkS x = 0 := chkAll_zero.1 h1
    have pa : posN a := fun z hz => (chkS_n (ha z (by simp [hz]))).1
    have pb : posN b := fun z hz => (chkS_n (ha z (by simp [hz]))).1
    have hg := gat_swap pa pb
    refine ⟨tabE_of (chkAll_zero.2 (fun z hz => ha z ?_)) (by rw [← hg]; exact h2) ?_, hg⟩
    · rcases List.mem_append.1 hz with h | h
      · simp [h]
      · simp [h]
    · rw [sumN_append] at h3 ⊢; omega
  refine ⟨⟨fun h => (key a b h).1, fun h => (key b a h).1⟩, fun h => ?_⟩
  rw [tabS, if_pos h, tabS, if_pos (key a b h).1, (key a b h).2]
/-- Merged, two tables are that of both. -/
theorem mer_tab {l m : List Blk} (hl : tabE l = 0) (hm : tabE m = 0) : merE (tabS l) (tabS m) = tabE (l ++ m) ∧ merS (tabS l) (tabS m) = tabS (l ++ m) := by
  obtain ⟨l1, l2, l3⟩ := tabE_facts hl
  obtain ⟨m1, m2, m3⟩ := tabE_facts hm
  have pl := posN_of l1
  have pm := posN_of m1
  have e1 : merE (tabS l) (tabS m) = tabE (l ++ m) := by
    rw [tabS, if_pos hl, tabS, if_pos hm, merE, if_pos (tab_chk hl), if_pos (tab_chk hm)]
    have c1 : chkAll (gat l ++ gat m) = 0 := by rw [chkAll_append, if_pos (gat_chk l1 l3)]; exact gat_chk m1 m3
    have c2 : chkAll (l ++ m) = 0 := by rw [chkAll_append, if_pos l1]; exact m1
    unfold tabE
    rw [if_pos c1, if_pos c2, gat_two pl pm, sumN_append, sumN_append, gat_sum, gat_sum]
  refine ⟨e1, ?_⟩
  rw [merS, e1, tabS, tabS, tabS]
  by_cases h : tabE (l ++ m) = 0
  · rw [if_pos h, if_pos h, if_pos hl, if_pos hm, gat_two pl pm]
  · rw [if_neg h, if_neg h]
theorem mer_none {l : List Blk} (hl : tabE l = 0) : merE (tabS l) [] = 0 ∧ merS (tabS l) [] = tabS l := by
  have h0 : tabE [] = 0 := by decide
  have h1 : tabS [] = [] := by unfold tabS gat; rw [if_pos h0]; rfl
  obtain ⟨e1, e2⟩ := mer_tab hl h0
  rw [h1, List.append_nil] at e1 e2
  exact ⟨by rw [e1]; exact hl, e2⟩
/-- Of each block its table tells how often it is there. -/
theorem fin_tab {l : List Blk} (hl : tabE l = 0) (k : Blk) : finS (tabS l) k = cnt l k := by
  rw [tabS, if_pos hl, finS, if_pos (tab_chk hl), gat_cnt]
theorem cnt_nonneg {l : List Blk} (h : posN l) (k : Blk) : 0 ≤ cnt l k := by
  induction l with
  | nil => rw [cnt_nil]; omega
  | cons a l ih =>
    have h1 := h a (by simp)
    have h2 := ih (fun z hz => h z (by simp [hz]))
    rw [cnt_cons]
    split <;> omega
theorem cnt_mem {l : List Blk} (h : posN l) : ∀ b ∈ l, b.2.2 ≤ cnt l b := by
  induction l with
  | nil => simp
  | cons a l ih =>
    intro b hb
    have h1 := h a (by simp)
    have h2 : posN l := fun z hz => h z (by simp [hz])
    rw [cnt_cons]
    rcases List.mem_cons.1 hb with rfl | hb
    · rw [if_pos ⟨rfl, rfl⟩]
      have := cnt_nonneg h2 b
      omega
    · have := ih h2 b hb
      split <;> omega
theorem tot_tab {l : List Blk} (hl : tabE l = 0) : totS (tabS l) = sumN l := by
  rw [tabS, if_pos hl, totS, if_pos (tab_chk hl), gat_sum]
end Go.Proofs.YtbbkkoeipkigdaaDoor

/- Rules, plain: a rule as a block whose number is its cost; rules each once, in order, with the least cost; what the document answers. -/
namespace Go.Proofs.YtbbkkoeipkigdaaDoor
open Go.RowKit Go.Shelf

/-- The least cost of a key, 256 where there is none. -/
def lst (l : List Blk) (k : Blk) : Int := l.foldr (fun r m => if sameS r k then min r.2.2 m else m) 256
theorem lst_nil (k : Blk) : lst [] k = 256 := rfl
theorem lst_cons (a : Blk) (l : List Blk) (k : Blk) : lst (a :: l) k = if sameS a k then min a.2.2 (lst l k) else lst l k := rfl
theorem lst_le (l : List Blk) (k : Blk) : lst l k ≤ 256 := by
  induction l with
  | nil => rw [lst_nil]; omega
  | cons a l ih =>
    rw [lst_cons]
    split <;> omega
theorem lst_append (a b : List Blk) (k : Blk) : lst (a ++ b) k = min (lst a k) (lst b k) := by
  induction a with
  | nil => have := lst_le b k; rw [List.nil_append, lst_nil]; omega
  | cons x a ih =>
    rw [List.cons_append, lst_cons, lst_cons, ih]
    split <;> omega
theorem lst_none {l : List Blk} {k : Blk} (h : ∀ b ∈ l, ¬ sameS b k) : lst l k = 256 := by
  induction l with
  | nil => rfl
  | cons a l ih => rw [lst_cons, if_neg (h a (by simp)), ih (fun b hb => h b (by simp [hb]))]
/-- Costs may be. -/
def costB (l : List Blk) : Prop := ∀ b ∈ l, 1 ≤ b.2.2 ∧ b.2.2 ≤ 255
theorem srt_cons_lst {a : Blk} {l : List Blk} (h : Srt (a :: l)) : lst l a = 256 := lst_none (fun b hb e => (less_not (h.1 b hb)).2 (sameS_symm e))
theorem lst_below {a k : Blk} {l : List Blk} (h : Srt (a :: l)) (hk : lessB k a = true) : lst (a :: l) k = 256 :=
  lst_none (fun b hb => by
    rcases List.mem_cons.1 hb with rfl | hb
    · exact fun e => (less_not hk).2 (sameS_symm e)
    · exact fun e => (less_not (less_on k a b hk (h.1 b hb))).2 (sameS_symm e))
/-- Two rows in order that cost the same are the same. -/
theorem lst_ext {a b : List Blk} (ha : Srt a) (hb : Srt b) (pa : costB a) (pb : costB b) (h : ∀ k, lst a k = lst b k) : a = b := by
  induction a generalizing b with
  | nil =>
    cases b with
    | nil => rfl
    | cons y b =>
      exfalso
      have h1 := h y
      rw [lst_nil, lst_cons, if_pos ⟨rfl, rfl⟩, srt_cons_lst hb] at h1
      have := pb y (by simp)
      omega
  | cons x a ih =>
    cases b with
    | nil =>
      exfalso
      have h1 := h x
      rw [lst_nil, lst_cons, if_pos ⟨rfl, rfl⟩, srt_cons_lst ha] at h1
      have := pa x (by simp)
      omega
    | cons y b =>
      have px := pa x (by simp)
      have py := pb y (by simp)
      rcases less_one x y with ⟨h1, _, _⟩ | ⟨_, h1, _⟩ | ⟨_, _, h1⟩
      · exfalso
        have h2 := h x
        rw [lst_below hb h1, lst_cons, if_pos ⟨rfl, rfl⟩, srt_cons_lst ha] at h2
        omega
      · exfalso
        have h2 := h y
        rw [lst_below ha h1, lst_cons, if_pos ⟨rfl, rfl⟩, srt_cons_lst hb] at h2
        omega
      · have h2 := h x
        rw [lst_cons, if_pos ⟨rfl, rfl⟩, srt_cons_lst ha, lst_cons, if_pos (sameS_symm h1)] at h2
        have h3 : lst b x = 256 := lst_none (fun z hz e => (less_not (hb.1 z hz)).2 ⟨h1.1.symm.trans e.1.symm, h1.2.symm.trans e.2.symm⟩)
        rw [h3] at h2
        have exy : x = y := by
          obtain ⟨x1, x2, x3⟩ := x
          obtain ⟨y1, y2, y3⟩ := y
          obtain ⟨e1, e2⟩ := h1
          simp only at e1 e2 h2 px py
          subst e1 e2
          have : x3 = y3 := by omega
          subst this; rfl
        subst exy
        rw [ih ha.2 hb.2 (fun z hz => pa z (by simp [hz])) (fun z hz => pb z (by simp [hz])) (fun k => by
          have h5 := h k
          rw [lst_cons, lst_cons] at h5
          by_cases hk : sameS x k
          · have ea : lst a k = 256 := lst_none (fun z hz e => (less_not (ha.1 z hz)).2 ⟨hk.1.trans e.1.symm, hk.2.trans e.2.symm⟩)
            have eb : lst b k = 256 := lst_none (fun z hz e => (less_not (hb.1 z hz)).2 ⟨hk.1.trans e.1.symm, hk.2.trans e.2.symm⟩)
            rw [ea, eb]
          · rw [if_neg hk, if_neg hk] at h5
            exact h5)]

/-- A rule more among rules in order. -/
def insR (b : Blk) : List Blk → List Blk
  | [] => [b]
  | x :: t => if lessB x b = true then x :: insR b t else if sameS x b then (x.1, x.2.1, min x.2.2 b.2.2) :: t else b :: x :: t
theorem insR_lst (b : Blk) (l : List Blk) (k : Blk) (hb : b.2.2 ≤ 255) : lst (insR b l) k = min (lst l k) (if sameS b k then b.2.2 else 256) := by
  induction l with
  | nil =>
    rw [insR, lst_cons, lst_nil]
    split <;> omega
  | cons x t ih =>
    have hle := lst_le t k
    rw [insR]
    split
    · rw [lst_cons, lst_cons, ih]
      split <;> split <;> omega
    · split
      · rename_i h
        rw [lst_cons, lst_cons]
        by_cases hk : sameS x k
        · have hk' : sameS b k := ⟨h.1.symm.trans hk.1, h.2.symm.trans hk.2⟩
          rw [if_pos hk, if_pos hk', if_pos (show sameS (x.1, x.2.1, min x.2.2 b.2.2) k from hk)]
          simp only
          omega
        · have hk' : ¬ sameS b k := fun e => hk ⟨h.1.trans e.1, h.2.trans e.2⟩
          rw [if_neg hk, if_neg hk', if_neg (show ¬ sameS (x.1, x.2.1, min x.2.2 b.2.2) k from hk)]
          omega
      · rw [lst_cons, lst_cons]
        split <;> split <;> omega
theorem insR_cost {b : Blk} {l : List Blk} (hb : 1 ≤ b.2.2 ∧ b.2.2 ≤ 255) (hl : costB l) : costB (insR b l) := by
  induction l with
  | nil => intro z hz; rw [insR] at hz; obtain rfl : z = b := (by simpa using hz); exact hb
  | cons x t ih =>
    have hx := hl x (by simp)
    have ht : costB t := fun z hz => hl z (by simp [hz])
    rw [insR]
    split
    · intro z hz
      rcases List.mem_cons.1 hz with rfl | hz
      · exact hx
      · exact ih ht z hz
    · split
      · intro z hz
        rcases List.mem_cons.1 hz with rfl | hz
        · simp only; omega
        · exact ht z hz
      · intro z hz
        rcases List.mem_cons.1 hz with rfl | hz
        · exact hb
        · exact hl z hz
theorem insR_keys (b : Blk) (l : List Blk) : ∀ z ∈ insR b l, sameS z b ∨ ∃ y ∈ l, sameS z y := by
  induction l with
  | nil => intro z hz; rw [insR] at hz; obtain rfl : z = b := (by simpa using hz); exact .inl ⟨rfl, rfl⟩
  | cons x t ih =>
    intro z hz
    rw [insR] at hz
    split at hz
    · rcases List.mem_cons.1 hz with rfl | hz
      · exact .inr ⟨z, by simp, rfl, rfl⟩
      · rcases ih z hz with h | ⟨y, hy, h⟩
        · exact .inl h
        · exact .inr ⟨y, by simp [hy], h⟩
    · split at hz
      · rcases List.mem_cons.1 hz with rfl | hz
        · exact .inr ⟨x, by simp, rfl, rfl⟩
        · exact .inr ⟨z, by simp [hz], rfl, rfl⟩
      · rcases List.mem_cons.1 hz with rfl | hz
        · exact .inl ⟨rfl, rfl⟩
        · exact .inr ⟨z, hz, rfl, rfl⟩
theorem insR_srt {b : Blk} {l : List Blk} (hl : Srt l) : Srt (insR b l) := by
  induction l with
  | nil => rw [insR]; exact ⟨fun z hz => by simp at hz, trivial⟩
  | cons x t ih =>
    rw [insR]
    split
    · rename_i h
      refine ⟨fun z hz => ?_, ih hl.2⟩
      rcases insR_keys b t z hz with e | ⟨y, hy, e⟩
      · rw [less_key ⟨rfl, rfl⟩ e]; exact h
      · rw [less_key ⟨rfl, rfl⟩ e]; exact hl.1 y hy
    · split
      · refine ⟨fun z hz => ?_, hl.2⟩
        exact (less_key (a := (x.1, x.2.1, min x.2.2 b.2.2)) (c := x) ⟨rfl, rfl⟩ ⟨rfl, rfl⟩).trans (hl.1 z hz)
      · rename_i h1 h2
        have hbx : lessB b x = true := by
          rcases less_one x b with ⟨h, _, _⟩ | ⟨_, h, _⟩ | ⟨_, _, h⟩
          · exact absurd h h1
          · exact h
          · exact absurd h h2
        refine ⟨fun z hz => ?_, hl⟩
        rcases List.mem_cons.1 hz with rfl | hz
        · exact hbx
        · exact less_on b x z hbx (hl.1 z hz)
/-- Rules each once, in order, with the least cost. -/
def nrm (l : List Blk) : List Blk := l.foldl (fun out b => insR b out) []
theorem nrm_snoc (l : List Blk) (b : Blk) : nrm (l ++ [b]) = insR b (nrm l) := by simp [nrm]
theorem foldR_facts (l out : List Blk) (ho : Srt out) (hc : costB l) : Srt (l.foldl (fun out b => insR b out) out) ∧ (∀ k, lst (l.foldl (fun out b => insR b out) out) k = min (lst out k) (lst l k)) := by
  induction l generalizing out with
  | nil => exact ⟨ho, fun k => by have := lst_le out k; rw [lst_nil, List.foldl_nil]; omega⟩
  | cons b l ih =>
    obtain ⟨h1, h2⟩ := ih (insR b out) (insR_srt ho) (fun z hz => hc z (by simp [hz]))
    refine ⟨h1, fun k => ?_⟩
    have := lst_le l k
    rw [List.foldl_cons, h2 k, insR_lst _ _ _ (hc b (by simp)).2, lst_cons]
    split <;> omega
theorem foldR_cost (l out : List Blk) (ho : costB out) (hl : costB l) : costB (l.foldl (fun out b => insR b out) out) := by
  induction l generalizing out with
  | nil => exact ho
  | cons b l ih => exact ih (insR b out) (insR_cost (hl b (by simp)) ho) (fun z hz => hl z (by simp [hz]))
theorem nrm_srt {l : List Blk} (h : costB l) : Srt (nrm l) := (foldR_facts l [] trivial h).1
theorem nrm_lst {l : List Blk} (h : costB l) (k : Blk) : lst (nrm l) k = lst l k := by have := (foldR_facts l [] trivial h).2 k; have h2 := lst_le l k; rw [lst_nil] at this; unfold nrm; omega
theorem nrm_cost {l : List Blk} (h : costB l) : costB (nrm l) := foldR_cost l [] (fun z hz => by simp at hz) h
/-- What is in order, and costs as a list does, is that list made normal. -/
theorem nrm_uniq {l t : List Blk} (hl : costB l) (ht : Srt t) (pt : costB t) (h : ∀ k, lst t k = lst l k) : t = nrm l :=
  lst_ext ht (nrm_srt hl) pt (nrm_cost hl) (fun k => by rw [h k, nrm_lst hl])
theorem nrm_perm {l m : List Blk} (hl : costB l) (hm : costB m) (h : ∀ k, lst l k = lst m k) : nrm l = nrm m :=
  nrm_uniq hm (nrm_srt hl) (nrm_cost hl) (fun k => by rw [nrm_lst hl, h k])
theorem nrm_self {l : List Blk} (hl : costB l) (hs : Srt l) : nrm l = l := (nrm_uniq hl hs hl (fun _ => rfl)).symm
theorem nrm_swap {l m : List Blk} (hl : costB l) (hm : costB m) : nrm (l ++ m) = nrm (m ++ l) :=
  nrm_perm (fun z hz => by rcases List.mem_append.1 hz with h | h; exact hl z h; exact hm z h) (fun z hz => by rcases List.mem_append.1 hz with h | h; exact hm z h; exact hl z h) (fun k => by rw [lst_append, lst_append]; omega)

/-- Whether a rule may be. -/
def rchk (r : Blk) : Int := if chkS (r.1, r.2.1, 1) = 0 then (if r.2.2 < 1 ∨ 255 < r.2.2 then 2 else 0) else chkS (r.1, r.2.1, 1)
def rall : List Blk → Int
  | [] => 0
  | b :: l => if rchk b = 0 then rall l else rchk b
/-- Whether rules are normal. -/
def risS (l : List Blk) : Int := if rall l = 0 then (if ordB l then (if 4096 < l.length then 6 else 0) else 7) else rall l
def norE (l : List Blk) : Int := if rall l = 0 then (if 4096 < (nrm l).length then 6 else 0) else rall l
def norS (l : List Blk) : List Blk := if norE l = 0 then nrm l else []
/-- What a rule costs: 0 where there is none; its error. -/
def rfS (l : List Blk) (k : Blk) : Int := if risS l = 0 then (if lst l k = 256 then 0 else lst l k) else 0
theorem rchk_cost {r : Blk} (h : rchk r = 0) : 1 ≤ r.2.2 ∧ r.2.2 ≤ 255 := by
  unfold rchk at h
  split at h
  · split at h
    · cases h
    · omega
  · rename_i h0; exact absurd h h0
theorem rall_zero {l : List Blk} : rall l = 0 ↔ ∀ b ∈ l, rchk b = 0 := by
  induction l with
  | nil => simp [rall]
  | cons a l ih =>
    rw [rall]
    split
    · rename_i h
      rw [ih]
      constructor
      · intro h2 b hb
        rcases List.mem_cons.1 hb with rfl | hb
        · exact h
        · exact h2 b hb
      · exact fun h2 b hb => h2 b (by simp [hb])
    · rename_i h
      exact ⟨fun h2 => absurd h2 h, fun h2 => absurd (h2 a (by simp)) h⟩
theorem costB_of {l : List Blk} (h : rall l = 0) : costB l := fun b hb => rchk_cost (rall_zero.1 h b hb)
end Go.Proofs.YtbbkkoeipkigdaaDoor

/- Rules, plain: what follows of normal rules. -/
namespace Go.Proofs.YtbbkkoeipkigdaaDoor
open Go.RowKit Go.Shelf

theorem foldR_keys (l out : List Blk) : ∀ z ∈ l.foldl (fun out b => insR b out) out, (∃ y ∈ l, sameS z y) ∨ ∃ y ∈ out, sameS z y := by
  induction l generalizing out with
  | nil => exact fun z hz => .inr ⟨z, hz, rfl, rfl⟩
  | cons b l ih =>
    intro z hz
    rcases ih (insR b out) z hz with ⟨y, hy, e⟩ | ⟨y, hy, e⟩
    · exact .inl ⟨y, by simp [hy], e⟩
    · rcases insR_keys b out y hy with e2 | ⟨y2, hy2, e2⟩
      · exact .inl ⟨b, by simp, e.1.trans e2.1, e.2.trans e2.2⟩
      · exact .inr ⟨y2, hy2, e.1.trans e2.1, e.2.trans e2.2⟩
theorem nrm_keys (l : List Blk) : ∀ z ∈ nrm l, ∃ y ∈ l, sameS z y := fun z hz => by
  rcases foldR_keys l [] z hz with h | ⟨y, hy, _⟩
  · exact h
  · simp at hy
theorem rchk_key {r s : Blk} (h : rchk r = 0) (e : sameS s r) (h1 : 1 ≤ s.2.2) (h2 : s.2.2 ≤ 255) : rchk s = 0 := by
  unfold rchk at h ⊢
  rw [e.1, e.2]
  split at h
  · rename_i h0
    rw [if_pos h0, if_neg (by omega)]
  · rename_i h0; exact absurd h h0
theorem nrm_chk {l : List Blk} (h : rall l = 0) : rall (nrm l) = 0 := rall_zero.2 (fun z hz => by
  obtain ⟨y, hy, e⟩ := nrm_keys l z hz
  have hc := nrm_cost (costB_of h) z hz
  exact rchk_key (rall_zero.1 h y hy) e hc.1 hc.2)
theorem insR_len (b : Blk) (l : List Blk) : (insR b l).length ≤ l.length + 1 := by
  induction l with
  | nil => simp [insR]
  | cons x t ih =>
    rw [insR]
    split
    · simp only [List.length_cons]; omega
    · split
      · simp
      · simp
theorem foldR_len (l out : List Blk) : (l.foldl (fun out b => insR b out) out).length ≤ out.length + l.length := by
  induction l generalizing out with
  | nil => simp
  | cons b l ih =>
    have h1 := ih (insR b out)
    have h2 := insR_len b out
    rw [List.foldl_cons, List.length_cons]; omega
theorem nrm_len (l : List Blk) : (nrm l).length ≤ l.length := by have := foldR_len l []; unfold nrm; simpa using this
theorem norE_facts {l : List Blk} (h : norE l = 0) : rall l = 0 ∧ (nrm l).length ≤ 4096 := by
  unfold norE at h
  split at h
  · rename_i h0
    split at h
    · cases h
    · exact ⟨h0, by omega⟩
  · rename_i h0; exact absurd h h0
theorem norE_of {l : List Blk} (h1 : rall l = 0) (h2 : (nrm l).length ≤ 4096) : norE l = 0 := by
  unfold norE; rw [if_pos h1, if_neg (by omega)]
theorem risS_of {l : List Blk} (h1 : rall l = 0) (h2 : Srt l) (h3 : l.length ≤ 4096) : risS l = 0 := by
  unfold risS; rw [if_pos h1, if_pos ((ordB_srt l).2 h2), if_neg (by omega)]
theorem risS_facts {l : List Blk} (h : risS l = 0) : rall l = 0 ∧ Srt l ∧ l.length ≤ 4096 := by
  unfold risS at h
  split at h
  · rename_i h0
    split at h
    · rename_i h1
      split at h
      · cases h
      · exact ⟨h0, (ordB_srt l).1 h1, by omega⟩
    · cases h
  · rename_i h0; exact absurd h h0
theorem nor_is {l : List Blk} (h : norE l = 0) : risS (norS l) = 0 := by
  obtain ⟨h1, h2⟩ := norE_facts h
  rw [norS, if_pos h]
  exact risS_of (nrm_chk h1) (nrm_srt (costB_of h1)) h2
theorem nor_no {l : List Blk} (h : norE l ≠ 0) : norS l = [] ∧ risS l ≠ 0 := by
  refine ⟨by rw [norS, if_neg h], fun h2 => h ?_⟩
  obtain ⟨q1, _, q3⟩ := risS_facts h2
  exact norE_of q1 (Nat.le_trans (nrm_len l) q3)
theorem nor_again {l : List Blk} (h : norE l = 0) : norE (norS l) = 0 ∧ norS (norS l) = norS l := by
  obtain ⟨h1, h2⟩ := norE_facts h
  have e : norS l = nrm l := by rw [norS, if_pos h]
  have hs : nrm (nrm l) = nrm l := nrm_self (nrm_cost (costB_of h1)) (nrm_srt (costB_of h1))
  rw [e]
  have h3 : norE (nrm l) = 0 := norE_of (nrm_chk h1) (by rw [hs]; exact h2)
  exact ⟨h3, by rw [norS, if_pos h3, hs]⟩
theorem rall_swap (a b : List Blk) : rall (a ++ b) = 0 ↔ rall (b ++ a) = 0 := by
  rw [rall_zero, rall_zero]
  constructor <;> exact fun h z hz => h z (by rcases List.mem_append.1 hz with h | h <;> simp [h])
theorem nor_swap (a b : List Blk) : (norE (a ++ b) = 0 ↔ norE (b ++ a) = 0) ∧ (norE (a ++ b) = 0 → norS (a ++ b) = norS (b ++ a)) := by
  have key : rall (a ++ b) = 0 → nrm (a ++ b) = nrm (b ++ a) := fun h => by
    have hc := costB_of h
    exact nrm_swap (fun z hz => hc z (by simp [hz])) (fun z hz => hc z (by simp [hz]))
  have h1 : norE (a ++ b) = 0 ↔ norE (b ++ a) = 0 := by
    constructor
    · intro h
      obtain ⟨q1, q2⟩ := norE_facts h
      exact norE_of ((rall_swap a b).1 q1) (by rw [← key q1]; exact q2)
    · intro h
      obtain ⟨q1, q2⟩ := norE_facts h
      have q3 := (rall_swap a b).2 q1
      exact norE_of q3 (by rw [key q3]; exact q2)
  refine ⟨h1, fun h => ?_⟩
  rw [norS, norS, if_pos h, if_pos (h1.1 h)]
  exact key (norE_facts h).1
theorem lst_mem {l : List Blk} : ∀ b ∈ l, lst l b ≤ b.2.2 := by
  induction l with
  | nil => simp
  | cons a l ih =>
    intro b hb
    rw [lst_cons]
    rcases List.mem_cons.1 hb with rfl | hb
    · rw [if_pos ⟨rfl, rfl⟩]; omega
    · have := ih b hb
      split <;> omega
/-- Each rule that was told is found, at the least cost that it was told with. -/
theorem nor_find {l : List Blk} (h : norE l = 0) : ∀ r ∈ l, lst (norS l) r = lst l r ∧ lst l r ≤ 255 := fun r hr => by
  obtain ⟨h1, _⟩ := norE_facts h
  have hc := costB_of h1
  rw [norS, if_pos h]
  refine ⟨nrm_lst hc r, ?_⟩
  have := lst_mem r hr
  have := (hc r hr).2
  omega
/-- Find's error. -/
def rfE (l : List Blk) (k : Blk) : Int := if risS l = 0 then (if lst l k = 256 then 10 else 0) else risS l
end Go.Proofs.YtbbkkoeipkigdaaDoor

/- Rows by their places, plain: as they are gathered by their ends; as they are met from a place on; both are the rows that stand there, rising. -/
namespace Go.Proofs.YtbbkkoeipkigdaaDoor

/-- Of each place what was gathered by the ends ahead of e. -/
def accP (F : List (List Int)) (l : List Int) (e a : Nat) : List Nat := (List.range (e - a)).flatMap (fun k => idxP F F.length ((l.drop a).take k))
theorem accP_zero (F : List (List Int)) (l : List Int) (a : Nat) : accP F l 0 a = [] := by simp [accP]
theorem accP_succ (F : List (List Int)) (l : List Int) (e a : Nat) (h : a ≤ e) : accP F l (e + 1) a = accP F l e a ++ idxP F F.length ((l.drop a).take (e - a)) := by
  unfold accP
  rw [show e + 1 - a = (e - a) + 1 by omega, List.range_succ, List.flatMap_append]
  simp
theorem accP_late (F : List (List Int)) (l : List Int) (e a : Nat) (h : e < a) : accP F l (e + 1) a = accP F l e a := by
  unfold accP
  rw [show e + 1 - a = 0 by omega, show e - a = 0 by omega]
/-- The states on the way back at which rows end. -/
def endsP (F : List (List Int)) (m : List Int → Bool) (s : List Int) : List (List Int) := (chain m (s.length + 1) s).filter (fun p => !(idxP F F.length p).isEmpty)
/-- What those of one place, handed on, have. -/
def atEnd (F : List (List Int)) (e a : Nat) (ps : List (List Int)) : List Nat := (ps.filter (fun p => e - p.length == a)).flatMap (idxP F F.length)
theorem atEnd_nil (F : List (List Int)) (e a : Nat) : atEnd F e a [] = [] := rfl
theorem atEnd_snoc (F : List (List Int)) (e a : Nat) (ps : List (List Int)) (p : List Int) : atEnd F e a (ps ++ [p]) = atEnd F e a ps ++ if e - p.length = a then idxP F F.length p else [] := by
  unfold atEnd
  rw [List.filter_append, List.flatMap_append, List.filter_cons]
  congr 1
  by_cases h : e - p.length = a
  · rw [if_pos (by simpa using h), if_pos h]; simp
  · rw [if_neg (by simpa using h), if_neg h]; simp
theorem all_same {α : Type} {L : List α} {x : α} (hn : L.Nodup) (h : ∀ y ∈ L, y = x) : L = [] ∨ L = [x] := by
  cases L with
  | nil => exact .inl rfl
  | cons y L =>
    right
    obtain rfl := h y (by simp)
    cases L with
    | nil => rfl
    | cons z L =>
      have := h z (by simp)
      subst this
      simp at hn
/-- What ends at e and begins at a is the part between. -/
theorem end_part {p l : List Int} {e a : Nat} (he : e ≤ l.length) (hp : p <:+ l.take e) (ha : e - p.length = a) : p = (l.drop a).take (e - a) ∧ a ≤ e := by
  obtain ⟨q, hq⟩ := hp
  have hl := congrArg List.length hq
  rw [List.length_append, List.length_take] at hl
  have hq1 : q.length = a := by omega
  refine ⟨?_, by omega⟩
  have h1 : (l.take e).drop a = p := by rw [← hq, ← hq1, List.drop_left]
  rw [← h1, List.drop_take]
theorem part_end {l : List Int} {e a : Nat} : (l.drop a).take (e - a) <:+ l.take e := by
  rw [← List.drop_take]
  exact List.drop_suffix _ _
theorem atEnd_all (F : List (List Int)) {m : List Int → Bool} (hn : m [] = true) (hF : ∀ f ∈ F, m f = true) {l : List Int} {e : Nat} (he : e ≤ l.length) (a : Nat) :
    atEnd F e a (endsP F m (lsuf m (l.take e))) = if a ≤ e then idxP F F.length ((l.drop a).take (e - a)) else [] := by
  have hs := lsuf_in hn (l.take e)
  have hmem : ∀ p, p ∈ endsP F m (lsuf m (l.take e)) ↔ (p <:+ l.take e ∧ m p = true) ∧ (idxP F F.length p).isEmpty = false := by
    intro p
    unfold endsP
    rw [List.mem_filter, chain_mem hn _ _ _ (by omega) hs]
    constructor
    · rintro ⟨⟨h1, h2⟩, h3⟩
      exact ⟨⟨(ends_state h2).2 h1, h2⟩, by simpa using h3⟩
    · rintro ⟨⟨h1, h2⟩, h3⟩
      exact ⟨⟨(ends_state h2).1 h1, h2⟩, by rw [h3]; rfl⟩
  have hnod : (endsP F m (lsuf m (l.take e))).Nodup := by
    unfold endsP
    refine List.Pairwise.filter _ ((chain_down _ _).1.imp (fun {a b} h e => ?_))
    subst e; omega
  obtain ⟨E, hE⟩ : ∃ E, endsP F m (lsuf m (l.take e)) = E := ⟨_, rfl⟩
  rw [hE] at hmem hnod ⊢
  have hin : ∀ f, m f = false → idxP F F.length f = [] := fun f hf => by
    apply List.eq_nil_iff_forall_not_mem.2
    intro i hi
    obtain ⟨h1, h2⟩ := mem_idxP.1 hi
    have h3 : F.getD i [] ∈ F := by
      rw [List.getD_eq_getElem?_getD, List.getElem?_eq_getElem h1]; exact List.getElem_mem _
    rw [h2] at h3
    rw [hF f h3] at hf; cases hf
  by_cases ha : a ≤ e
  · rw [if_pos ha]
    obtain ⟨x, hx⟩ : ∃ x, (l.drop a).take (e - a) = x := ⟨_, rfl⟩
    have hxs : x <:+ l.take e := by rw [← hx]; exact part_end
    have hxl : x.length = e - a := by rw [← hx, List.length_take, List.length_drop]; omega
    rw [hx]
    unfold atEnd
    have hall : ∀ y ∈ E.filter (fun p => e - p.length == a), y = x := fun y hy => by
      obtain ⟨h1, h2⟩ := List.mem_filter.1 hy
      rw [← hx]
      exact (end_part he ((hmem y).1 h1).1.1 (by simpa using h2)).1
    rcases all_same (hnod.filter _) hall with h0 | h0
    · rw [h0]
      symm
      cases hm : m x with
      | false => rw [hin x hm]; rfl
      | true =>
        cases hi : (idxP F F.length x).isEmpty with
        | true => rw [List.isEmpty_iff.1 hi]; rfl
        | false =>
          have h1 : x ∈ E.filter (fun p => e - p.length == a) := List.mem_filter.2 ⟨(hmem x).2 ⟨⟨hxs, hm⟩, hi⟩, by simp [hxl]; omega⟩
          rw [h0] at h1; cases h1
    · rw [h0]; simp
  · rw [if_neg ha]
    unfold atEnd
    have h0 : E.filter (fun p => e - p.length == a) = [] := by
      rw [List.filter_eq_nil_iff]
      intro p hp h1
      have h2 : e - p.length = a := by simpa using h1
      omega
    rw [h0]; rfl
theorem accP_step (F : List (List Int)) {m : List Int → Bool} (hn : m [] = true) (hF : ∀ f ∈ F, m f = true) {l : List Int} {e : Nat} (he : e ≤ l.length) (a : Nat) :
    accP F l (e + 1) a = accP F l e a ++ atEnd F e a (endsP F m (lsuf m (l.take e))) := by
  rw [atEnd_all F hn hF he]
  by_cases ha : a ≤ e
  · rw [if_pos ha, accP_succ F l e a ha]
  · rw [if_neg ha, accP_late F l e a (by omega), List.append_nil]

/-- A row that begins another one comes ahead of it. -/
def PreUp (F : List (List Int)) : Prop := ∀ i j, i < F.length → j < F.length → F.getD i [] <+: F.getD j [] → F.getD i [] ≠ F.getD j [] → i < j
/-- Two rising rows of the same numbers are the same. -/
theorem up_uniq : ∀ (x y : List Nat), x.Pairwise (· < ·) → y.Pairwise (· < ·) → (∀ z, z ∈ x ↔ z ∈ y) → x = y := by
  intro x
  induction x with
  | nil =>
    intro y _ _ h
    exact (List.eq_nil_iff_forall_not_mem.2 (fun z hz => by have := (h z).2 hz; cases this)).symm
  | cons a x ih =>
    intro y hx hy h
    cases y with
    | nil => have := (h a).1 (by simp); cases this
    | cons b y =>
      obtain ⟨hx1, hx2⟩ := List.pairwise_cons.1 hx
      obtain ⟨hy1, hy2⟩ := List.pairwise_cons.1 hy
      have e : a = b := by
        have h1 := (h a).1 (by simp)
        have h2 := (h b).2 (by simp)
        rcases List.mem_cons.1 h1 with e | h1
        · exact e
        · rcases List.mem_cons.1 h2 with e | h2
          · exact e.symm
          · have := hy1 a h1
            have := hx1 b h2
            omega
      subst e
      rw [ih y hx2 hy2 (fun z => ?_)]
      constructor
      · intro hz
        have := hx1 z hz
        rcases List.mem_cons.1 ((h z).1 (by simp [hz])) with e | h1
        · omega
        · exact h1
      · intro hz
        have := hy1 z hz
        rcases List.mem_cons.1 ((h z).2 (by simp [hz])) with e | h1
        · omega
        · exact h1
theorem accP_at {F : List (List Int)} (hF : PreUp F) (l : List Int) {a : Nat} (ha : a ≤ l.length) : accP F l (l.length + 1) a = atP F l a := by
  refine up_uniq _ _ ?_ (atP_up F l a) (fun z => ?_)
  · unfold accP
    rw [List.pairwise_flatMap]
    refine ⟨fun k _ => idxP_up _ _ _, ?_⟩
    have hp : (List.range (l.length + 1 - a)).Pairwise (· < ·) := List.pairwise_lt_range
    refine List.Pairwise.imp_of_mem (fun {p q} hp hq hpq x hx y hy => ?_) hp
    have hp' := List.mem_range.1 hp
    have hq' := List.mem_range.1 hq
    obtain ⟨h1, h2⟩ := mem_idxP.1 hx
    obtain ⟨h3, h4⟩ := mem_idxP.1 hy
    refine hF x y h1 h3 ?_ ?_
    · rw [h2, h4]
      exact ⟨((l.drop a).take q).drop p, by
        have e : (l.drop a).take p = ((l.drop a).take q).take p := by rw [List.take_take, Nat.min_eq_left (by omega)]
        rw [e]; exact List.take_append_drop _ _⟩
    · rw [h2, h4]
      intro e
      have := congrArg List.length e
      rw [List.length_take, List.length_take, List.length_drop] at this
      omega
  · rw [mem_atP]
    unfold accP
    rw [List.mem_flatMap]
    constructor
    · rintro ⟨k, hk, hz⟩
      obtain ⟨h1, h2⟩ := mem_idxP.1 hz
      exact ⟨h1, by rw [h2]; exact List.take_prefix _ _⟩
    · rintro ⟨h1, h2⟩
      have hl := h2.length_le
      rw [List.length_drop] at hl
      exact ⟨(F.getD z []).length, List.mem_range.2 (by omega), mem_idxP.2 ⟨h1, List.prefix_iff_eq_take.1 h2⟩⟩
/-- From a place on, rune by rune: what was met so far. -/
def metA (F : List (List Int)) (x : List Int) (k : Nat) : List Nat := (List.range (k + 1)).flatMap (fun j => idxP F F.length (x.take j))
theorem metA_zero (F : List (List Int)) (x : List Int) : metA F x 0 = idxP F F.length [] := by simp [metA]
theorem metA_succ (F : List (List Int)) (x : List Int) (k : Nat) : metA F x (k + 1) = metA F x k ++ idxP F F.length (x.take (k + 1)) := by
  unfold metA
  rw [List.range_succ, List.flatMap_append]
  simp
theorem metA_all {F : List (List Int)} (hF : PreUp F) (l : List Int) {a : Nat} (ha : a ≤ l.length) : metA F (l.drop a) (l.drop a).length = atP F l a := by
  rw [← accP_at hF l ha]
  unfold metA accP
  rw [List.length_drop, show l.length + 1 - a = l.length - a + 1 by omega]
/-- Where a beginning is no state, no longer one is. -/
theorem metA_stop {F : List (List Int)} {m : List Int → Bool} (hp : ∀ s c, m (s ++ [c]) = true → m s = true) (hm : ∀ f ∈ F, m f = true) (x : List Int) {k : Nat} (hk : k < x.length) (h : m (x.take (k + 1)) = false) : ∀ j, metA F x (k + j) = metA F x k := by
  have hlate : ∀ j, k + j < x.length → m (x.take (k + j + 1)) = false := by
    intro j
    induction j with
    | zero => intro _; exact h
    | succ j ih =>
      intro hj
      cases e : m (x.take (k + (j + 1) + 1)) with
      | false => rfl
      | true =>
        rw [List.take_add_one, List.getElem?_eq_getElem (by omega)] at e
        have := hp _ _ e
        rw [show k + (j + 1) = k + j + 1 by omega, ih (by omega)] at this
        cases this
  intro j
  induction j with
  | zero => rfl
  | succ j ih =>
    rw [show k + (j + 1) = (k + j) + 1 by omega, metA_succ, ih]
    have : idxP F F.length (x.take (k + j + 1)) = [] := by
      apply List.eq_nil_iff_forall_not_mem.2
      intro i hi
      obtain ⟨h1, h2⟩ := mem_idxP.1 hi
      have h3 : F.getD i [] ∈ F := by
        rw [List.getD_eq_getElem?_getD, List.getElem?_eq_getElem h1]; exact List.getElem_mem _
      have h4 := hm _ h3
      rw [h2] at h4
      by_cases hj : k + j < x.length
      · rw [hlate j hj] at h4; cases h4
      · have e : x.take (k + j + 1) = x.take (k + (x.length - 1 - k) + 1) := by
          rw [List.take_of_length_le (by omega), List.take_of_length_le (by omega)]
        rw [e, hlate (x.length - 1 - k) (by omega)] at h4; cases h4
    rw [this, List.append_nil]
end Go.Proofs.YtbbkkoeipkigdaaDoor

/- The Froms of normal rules as rows of runes, plain: a row that begins another one comes ahead of it. -/
namespace Go.Proofs.YtbbkkoeipkigdaaDoor
open Go.RowKit Go.Shelf

/-- The runes of each From. -/
def frs (L : List Blk) : List (List Int) := L.map (fun b => items b.1.data.toList)
theorem frs_len (L : List Blk) : (frs L).length = L.length := by simp [frs]
theorem frs_at {L : List Blk} {i : Nat} {b : Blk} (h : L[i]? = some b) : (frs L)[i]? = some (items b.1.data.toList) := by simp [frs, h]
theorem frs_getD {L : List Blk} {i : Nat} {b : Blk} (h : L[i]? = some b) : (frs L).getD i [] = items b.1.data.toList := by
  rw [List.getD_eq_getElem?_getD, frs_at h]; rfl
theorem rchk_from {b : Blk} (h : rchk b = 0) : Lib.validD b.1.data.toList = true ∧ (items b.1.data.toList).length ≤ 3 := by
  unfold rchk at h
  have h1 : chkS (b.1, b.2.1, 1) = 0 := by
    split at h
    · assumption
    · exact h
  unfold chkS at h1
  split at h1
  · rename_i hv
    simp only [Bool.and_eq_true] at hv
    split at h1
    · cases h1
    · rename_i hl
      exact ⟨hv.1, Nat.le_of_not_lt (fun h => hl (.inl h))⟩
  · cases h1
theorem frs_valid {L : List Blk} (h : rall L = 0) : ∀ f ∈ frs L, f.length ≤ 3 ∧ ∀ x ∈ f, Lib.validRune x = true := by
  intro f hf
  obtain ⟨b, hb, rfl⟩ := List.mem_map.1 hf
  obtain ⟨h1, h2⟩ := rchk_from (rall_zero.1 h b hb)
  exact ⟨h2, items_runes _ h1⟩
theorem srt_at : ∀ (L : List Blk), Srt L → ∀ (i j : Nat) (a b : Blk), i < j → L[i]? = some a → L[j]? = some b → lessB a b = true := by
  intro L
  induction L with
  | nil => intro _ i j a b _ h; simp at h
  | cons x L ih =>
    intro hs i j a b hij hi hj
    cases j with
    | zero => omega
    | succ j =>
      have hj' : L[j]? = some b := by simpa using hj
      cases i with
      | zero =>
        have : x = a := by simpa using hi
        subst this
        exact hs.1 b (List.mem_of_getElem? hj')
      | succ i => exact ih hs.2 i j a b (by omega) (by simpa using hi) hj'
theorem prefix_not_lt {x y : List UInt8} (h : x <+: y) : ¬ y < x := by
  obtain ⟨t, rfl⟩ := h
  intro hlt
  have : x ≤ x ++ t := by
    clear hlt
    induction x with
    | nil => exact List.nil_le _
    | cons a x ih =>
      intro hlt
      rw [List.cons_append] at hlt
      rcases List.cons_lt_cons_iff.1 hlt with h1 | ⟨_, h1⟩
      · exact absurd h1 (UInt8.lt_irrefl _)
      · exact ih h1
  exact this hlt
theorem ba_toList (s : ByteArray) : s.toList = s.data.toList := Lib.toList_data s
theorem frs_up {L : List Blk} (h : risS L = 0) : PreUp (frs L) := by
  obtain ⟨h1, h2, _⟩ := risS_facts h
  intro i j hi hj hp hne
  rw [frs_len] at hi hj
  have ei : L[i]? = some L[i] := List.getElem?_eq_getElem hi
  have ej : L[j]? = some L[j] := List.getElem?_eq_getElem hj
  rw [frs_getD ei, frs_getD ej] at hp hne
  rcases Nat.lt_trichotomy i j with h3 | h3 | h3
  · exact h3
  · subst h3; exact absurd rfl hne
  · exfalso
    have h4 := srt_at L h2 j i _ _ h3 ej ei
    have v1 := (rchk_from (rall_zero.1 h1 _ (List.mem_of_getElem? ei))).1
    have v2 := (rchk_from (rall_zero.1 h1 _ (List.mem_of_getElem? ej))).1
    rcases (lessB_iff _ _).1 h4 with h5 | ⟨h5, _⟩
    · rw [ba_toList, ba_toList] at h5
      refine prefix_not_lt ?_ h5
      obtain ⟨t, ht⟩ := hp
      exact ⟨encL t, by rw [← enc_items _ v1, ← enc_items _ v2, ← ht, encL_append]⟩
    · rw [ba_toList, ba_toList] at h5
      exact hne (by rw [h5])
end Go.Proofs.YtbbkkoeipkigdaaDoor

