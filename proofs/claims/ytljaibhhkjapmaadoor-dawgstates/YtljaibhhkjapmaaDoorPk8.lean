/- Texts that several proofs of this seat share, one behind the other: MSlice ZRevAny XBestP YBegP KWord ZDawg Compare ZBin. -/
import Derived.Test.YtljaibhhkjapmaaDoorPk2
import Derived.Test.YtljaibhhkjapmaaDoorProg
import Derived.Test.YtljaibhhkjapmaaDoorPk7
import Derived.Test.YtljaibhhkjapmaaDoorPk4
import Derived.Test.YtljaibhhkjapmaaDoorPk1
import Derived.Test.YtljaibhhkjapmaaDoorPk5
import Derived.Deep.LoopGhost
import Derived.BigRegion
import Derived.Shelf.SlSortCmp.QuietGrown
/- Parts of a slice of runes, whatever its form. -/
namespace Go.Proofs.YtljaibhhkjapmaaDoor
open Go.RowKit
set_option linter.unusedSimpArgs false
set_option linter.unusedVariables false

theorem runs_sliced {w : World} {A : Option Addr} {n c : Nat} {x : List Int} (h : Runs w (.slice A n c) x) (hn : x.length = n) (k m : Nat) (hk : k ≤ m) (hm : m ≤ n) : Runs w (sliced A k m c 1) ((x.drop k).take (m - k)) := by
  obtain ⟨A', c', e, hlc, ⟨hcm, hc0⟩, hx⟩ := h
  obtain ⟨rfl, rfl⟩ : A = A' ∧ c = c' := by simp at e; exact ⟨e.1, e.2.2⟩
  have hl : ((x.drop k).take (m - k)).length = m - k := by rw [List.length_take, List.length_drop]; omega
  refine ⟨if c = k then A else A.map (·.add (k * 1)), c - k, by rw [hl]; rfl, by omega, ⟨by omega, fun e2 => ?_⟩, fun h0 => ?_⟩
  · split at e2
    · omega
    · cases A with
      | none => have := hc0 rfl; omega
      | some a => cases e2
  · rw [hl] at h0
    obtain ⟨b, o, eA, hb, hc⟩ := hx (by omega)
    subst eA
    refine ⟨b, o + k, ?_, hb, fun j hj => ?_⟩
    · rw [if_neg (by omega)]
      simp [Addr.add]
    · rw [hl] at hj
      rw [Nat.add_assoc, hc (k + j) (by omega)]
      simp only [List.getD_eq_getElem?_getD, List.getElem?_take, List.getElem?_drop]
      rw [if_pos (by omega)]
/-- Where a part of a slice begins. -/
def cutA (A : Option Addr) (c k : Nat) : Option Addr := if c = k then A else A.map (·.add (k * 1))
theorem size32 (w : World) : (sizeOf (Tryd.prog.elem 84)).run Tryd.prog w = .ok 1 w := by kernel_rfl
theorem elem32 : Tryd.prog.underlying 84 = some (.slice (Tryd.prog.elem 84)) := by kernel_rfl
theorem slice_lh32 {w : World} {A : Option Addr} {n c : Nat} {x : List Int} (h : Runs w (.slice A n c) x) (hn : x.length = n) (k m : Nat) (hk : k ≤ m) (hm : m ≤ n) :
    (Instr.slice 84 (.slice A n c) (some (.int .i64 (k : Int))) (some (.int .i64 (m : Int))) none).run Tryd.prog w = .ok (.slice (cutA A c k) (m - k) (c - k)) w ∧ Runs w (.slice (cutA A c k) (m - k) (c - k)) ((x.drop k).take (m - k)) := by
  have hr := runs_sliced h hn k m hk hm
  obtain ⟨A', c', e, hlc, _, _⟩ := h
  obtain ⟨rfl, rfl⟩ : A = A' ∧ c = c' := by simp at e; exact ⟨e.1, e.2.2⟩
  refine ⟨?_, hr⟩
  rw [run_slice_lh (ht := elem32) (h0 := by omega) (h1 := by omega) (h2 := by omega), size32]
  simp [Result.andThen, sliced, cutA]
theorem slice_h32 {w : World} {A : Option Addr} {n c : Nat} {x : List Int} (h : Runs w (.slice A n c) x) (hn : x.length = n) (m : Nat) (hm : m ≤ n) :
    (Instr.slice 84 (.slice A n c) none (some (.int .i64 (m : Int))) none).run Tryd.prog w = .ok (.slice (cutA A c 0) m c) w ∧ Runs w (.slice (cutA A c 0) m c) (x.take m) := by
  have hr := runs_sliced h hn 0 m (Nat.zero_le _) hm
  rw [List.drop_zero, Nat.sub_zero] at hr
  obtain ⟨A', c', e, hlc, _, _⟩ := h
  obtain ⟨rfl, rfl⟩ : A = A' ∧ c = c' := by simp at e; exact ⟨e.1, e.2.2⟩
  refine ⟨?_, hr⟩
  rw [run_slice_h (ht := elem32) (h0 := by omega) (h2 := by omega), size32]
  simp [Result.andThen, sliced, cutA]
theorem slice_l32 {w : World} {A : Option Addr} {n c : Nat} {x : List Int} (h : Runs w (.slice A n c) x) (hn : x.length = n) (k : Nat) (hk : k ≤ n) :
    (Instr.slice 84 (.slice A n c) (some (.int .i64 (k : Int))) none none).run Tryd.prog w = .ok (.slice (cutA A c k) (n - k) (c - k)) w ∧ Runs w (.slice (cutA A c k) (n - k) (c - k)) (x.drop k) := by
  have hr := runs_sliced h hn k n hk (Nat.le_refl _)
  rw [List.take_of_length_le (by rw [List.length_drop]; omega)] at hr
  refine ⟨?_, hr⟩
  rw [run_slice_l (ht := elem32) (h0 := by omega) (h1 := by omega), size32]
  simp [Result.andThen, sliced, cutA]
end Go.Proofs.YtljaibhhkjapmaaDoor

/- A row's end cut off and turned round, whatever its form. -/
namespace Go.Proofs.YtljaibhhkjapmaaDoor
open Go.RowKit Go.Shelf
set_option linter.unusedSimpArgs false
set_option linter.unusedVariables false

def cutE (A : Option Addr) (c k : Nat) : Option Addr := if c = k then A else A.map (·.add (k * 3))
theorem sizeEd (w : World) : (sizeOf (Tryd.prog.elem 81)).run Tryd.prog w = .ok 3 w := by kernel_rfl
theorem elemEd : Tryd.prog.underlying 81 = some (.slice (Tryd.prog.elem 81)) := by kernel_rfl
theorem slice_ed (w : World) (A : Option Addr) (n c k : Nat) (hk : k ≤ n) (hn : n ≤ c) (hc : c ≤ maxLen) :
    (Instr.slice 81 (.slice A n c) (some (.int .i64 (k : Int))) none none).run Tryd.prog w = .ok (.slice (cutE A c k) (n - k) (c - k)) w := by
  unfold maxLen at hc
  rw [run_slice_l (ht := elemEd) (h0 := by omega) (h1 := by omega), sizeEd]
  simp [Result.andThen, sliced, cutE]
theorem rev_any (base n cap : Nat) (E0 E : List Edg) (A : Option Addr) (w : World) (hn : n = E0.length + E.length) (h : w.ownsRow base 95 3 (.slice A n cap) n (gCells edCell (E0 ++ E))) (hl : n ≤ 100000000000000) (c : Nat) :
    Calls Tryd.prog 102 #[.slice (cutE A cap E0.length) E.length c] w fun e w' => e = .returned (.tuple #[]) ∧ w'.ownsRow base 95 3 (.slice A n cap) n (gCells edCell (E0 ++ E.reverse)) ∧ w.grownBy w' (Value.slice A n cap).ownBlock := by
  by_cases hE : E = []
  · subst hE
    refine (AnyQ.slices_Reverse_empty Tryd.lays35e _ c w).mono ?_
    rintro e w' ⟨rfl, rfl⟩
    exact ⟨rfl, by simpa using h, World.grownBy.refl _ _⟩
  · have hp := List.length_pos_iff.2 hE
    obtain ⟨g, cap', e, h1, h2, h3, h4, _⟩ := z_own_form h (by omega)
    simp only [Value.slice.injEq] at e
    obtain ⟨rfl, _, rfl⟩ := e
    refine (rev_end base g n cap E0 E w hn h hl _ c (fun _ => ?_)).mono ?_
    · unfold cutE
      rw [if_neg (by omega)]
      unfold Addr.add
      simp <;> omega
    · rintro e w' ⟨rfl, r1, r2⟩
      exact ⟨rfl, r1, r2⟩
end Go.Proofs.YtljaibhhkjapmaaDoor

/- The most frequent words, plain. -/
namespace Go.Proofs.YtljaibhhkjapmaaDoor
open Go.RowKit Go.Shelf

/-- A word more among words of which the more frequent ones come first. -/
def insF (b : Wrd) : List Wrd → List Wrd
  | [] => [b]
  | x :: t => if x.2 < b.2 then b :: x :: t else x :: insF b t
def bst (l : List Wrd) : List Wrd := l.foldl (fun out b => insF b out) []
def wbE (l : List Wrd) (k : Int) : Int := if wisS l = 0 then (if k < 0 ∨ 1000 < k then 2 else 0) else wisS l
def wbS (l : List Wrd) (k : Int) : List Wrd := if wbE l k = 0 then (bst l).take k.toNat else []
/-- Ever less frequent. -/
def dscF (l : List Wrd) : Prop := l.Pairwise (fun x y => y.2 ≤ x.2)
theorem insF_perm (b : Wrd) (l : List Wrd) : (insF b l).Perm (b :: l) := by
  induction l with
  | nil => exact List.Perm.refl _
  | cons x t ih =>
    rw [insF]
    split
    · exact List.Perm.refl _
    · exact (ih.cons x).trans (List.Perm.swap b x t)
theorem insF_dsc {b : Wrd} {l : List Wrd} (h : dscF l) : dscF (insF b l) := by
  induction l with
  | nil => exact List.pairwise_singleton _ _
  | cons x t ih =>
    obtain ⟨h1, h2⟩ := List.pairwise_cons.1 h
    rw [insF]
    split
    · rename_i hlt
      refine List.pairwise_cons.2 ⟨fun y hy => ?_, h⟩
      rcases List.mem_cons.1 hy with rfl | hy
      · omega
      · have := h1 y hy; omega
    · rename_i hge
      refine List.pairwise_cons.2 ⟨fun y hy => ?_, ih h2⟩
      rcases List.mem_cons.1 ((insF_perm b t).subset hy) with rfl | hy
      · omega
      · exact h1 y hy
theorem insF_at (b : Wrd) (g : List Wrd) (q : Nat) (h1 : ∀ j y, j < q → g[j]? = some y → b.2 ≤ y.2) (h2 : q ≤ g.length) (h3 : ∀ y, g[q]? = some y → y.2 < b.2) : insF b g = g.take q ++ [b] ++ g.drop q := by
  induction g generalizing q with
  | nil =>
    obtain rfl : q = 0 := by simpa using h2
    rfl
  | cons a g ih =>
    cases q with
    | zero => rw [insF, if_pos (h3 a rfl)]; rfl
    | succ q =>
      have := h1 0 a (by omega) rfl
      rw [insF, if_neg (by omega), ih q (fun j y hj hy => h1 (j + 1) y (by omega) (by simpa using hy)) (by simpa using h2) (fun y hy => h3 y (by simpa using hy))]
      simp
theorem dscF_at {g : List Wrd} (h : dscF g) {i j : Nat} {x y : Wrd} (hij : i < j) (hx : g[i]? = some x) (hy : g[j]? = some y) : y.2 ≤ x.2 := by
  obtain ⟨hi, rfl⟩ := List.getElem?_eq_some_iff.1 hx
  obtain ⟨hj, rfl⟩ := List.getElem?_eq_some_iff.1 hy
  exact List.pairwise_iff_getElem.1 h i j hi hj hij
theorem bst_snoc (l : List Wrd) (b : Wrd) : bst (l ++ [b]) = insF b (bst l) := by simp [bst]
theorem bst_take {l : List Wrd} (k : Nat) (x : Wrd) (h : l[k]? = some x) : bst (l.take (k + 1)) = insF x (bst (l.take k)) := by
  rw [List.take_add_one, h]; exact bst_snoc _ _
theorem foldF_perm (l out : List Wrd) : (l.foldl (fun out b => insF b out) out).Perm (l ++ out) := by
  induction l generalizing out with
  | nil => exact List.Perm.refl _
  | cons b l ih =>
    refine (ih (insF b out)).trans (((insF_perm b out).append_left l).trans ?_)
    exact List.perm_middle
theorem bst_perm (l : List Wrd) : (bst l).Perm l := by have := foldF_perm l []; rwa [List.append_nil] at this
theorem bst_len (l : List Wrd) : (bst l).length = l.length := (bst_perm l).length_eq
theorem foldF_dsc (l out : List Wrd) (h : dscF out) : dscF (l.foldl (fun out b => insF b out) out) := by
  induction l generalizing out with
  | nil => exact h
  | cons b l ih => exact ih _ (insF_dsc h)
theorem bst_dsc (l : List Wrd) : dscF (bst l) := foldF_dsc l [] List.Pairwise.nil
/-- The more frequent one first, as frequent ones rising. -/
def ltF (x y : Wrd) : Prop := y.2 < x.2 ∨ (x.2 = y.2 ∧ ltK x.1 y.1 = true)
theorem ltF_trans {x y z : Wrd} (h1 : ltF x y) (h2 : ltF y z) : ltF x z := by
  rcases h1 with h1 | ⟨h1, k1⟩
  · rcases h2 with h2 | ⟨h2, _⟩
    · exact .inl (by omega)
    · exact .inl (by omega)
  · rcases h2 with h2 | ⟨h2, k2⟩
    · exact .inl (by omega)
    · exact .inr ⟨by omega, ltK_on k1 k2⟩
theorem ltF_not {x y : Wrd} (h1 : ltF x y) : ¬ ltF y x := by
  rintro (h2 | ⟨h2, k2⟩)
  · rcases h1 with h1 | ⟨h1, _⟩ <;> omega
  · rcases h1 with h1 | ⟨_, k1⟩
    · omega
    · rw [(ltK_not k1).1] at k2; cases k2
theorem insF_mem (b : Wrd) (l : List Wrd) : ∀ z, z ∈ insF b l ↔ z = b ∨ z ∈ l := fun z => by
  rw [(insF_perm b l).mem_iff, List.mem_cons]
theorem insF_ltF {b : Wrd} {l : List Wrd} (h : l.Pairwise ltF) (hb : ∀ z ∈ l, ltK z.1 b.1 = true) : (insF b l).Pairwise ltF := by
  induction l with
  | nil => exact List.pairwise_singleton _ _
  | cons x t ih =>
    obtain ⟨h1, h2⟩ := List.pairwise_cons.1 h
    rw [insF]
    split
    · rename_i hlt
      refine List.pairwise_cons.2 ⟨fun y hy => ?_, h⟩
      rcases List.mem_cons.1 hy with rfl | hy
      · exact .inl hlt
      · exact ltF_trans (.inl hlt) (h1 y hy)
    · rename_i hge
      refine List.pairwise_cons.2 ⟨fun y hy => ?_, ih h2 (fun z hz => hb z (by simp [hz]))⟩
      rcases (insF_mem b t y).1 hy with rfl | hy
      · rcases Int.lt_or_eq_of_le (Int.not_lt.1 hge) with h3 | h3
        · exact .inl h3
        · exact .inr ⟨h3.symm, hb x (by simp)⟩
      · exact h1 y hy
theorem foldF_ltF (l out : List Wrd) (ho : out.Pairwise ltF) (hs : SrtW l) (hb : ∀ z ∈ out, ∀ b ∈ l, ltK z.1 b.1 = true) : (l.foldl (fun out b => insF b out) out).Pairwise ltF := by
  induction l generalizing out with
  | nil => exact ho
  | cons b l ih =>
    refine ih (insF b out) (insF_ltF ho (fun z hz => hb z hz b (by simp))) hs.2 (fun z hz c hc => ?_)
    rcases (insF_mem b out z).1 hz with rfl | hz
    · exact hs.1 c hc
    · exact hb z hz c (by simp [hc])
theorem bst_ltF {l : List Wrd} (hs : SrtW l) : (bst l).Pairwise ltF := foldF_ltF l [] List.Pairwise.nil hs (fun z hz => by simp at hz)
/-- Two rows of the same, each ever less so, are one. -/
theorem ltF_uniq {a b : List Wrd} (h : a.Perm b) (ha : a.Pairwise ltF) (hb : b.Pairwise ltF) : a = b := by
  induction a generalizing b with
  | nil => exact (List.nil_perm.1 h).symm
  | cons x a ih =>
    cases b with
    | nil => exact absurd (List.perm_nil.1 h) (by simp)
    | cons y b =>
      obtain ⟨a1, a2⟩ := List.pairwise_cons.1 ha
      obtain ⟨b1, b2⟩ := List.pairwise_cons.1 hb
      have e : x = y := by
        rcases List.mem_cons.1 (h.subset (by simp : x ∈ x :: a)) with e | hx
        · exact e
        · rcases List.mem_cons.1 (h.symm.subset (by simp : y ∈ y :: b)) with e | hy
          · exact e.symm
          · exact absurd (a1 y hy) (ltF_not (b1 x hx))
      subst e
      rw [ih ((List.perm_cons x).1 h) a2 b2]
/-- A row while one place wanders through it. -/
def rowF (g : List Wrd) (q : Nat) (z : Wrd) : List Wrd := g.take q ++ [z] ++ g.drop q
theorem rowF_len (g : List Wrd) (q : Nat) (z : Wrd) (h : q ≤ g.length) : (rowF g q z).length = g.length + 1 := by
  unfold rowF; simp only [List.length_append, List.length_take, List.length_drop, List.length_cons, List.length_nil]; omega
theorem rowF_end (g : List Wrd) (z : Wrd) : rowF g g.length z = g ++ [z] := by unfold rowF; simp
theorem rowF_set (g : List Wrd) (q : Nat) (z x : Wrd) (h : q ≤ g.length) : (rowF g q z).set q x = rowF g q x := by
  unfold rowF
  have : (g.take q).length = q := by rw [List.length_take]; omega
  rw [List.append_assoc, List.append_assoc, List.set_append_right _ _ (by omega), this]
  simp
theorem rowF_at (g : List Wrd) (q : Nat) (z y : Wrd) (hy : g[q]? = some y) : (rowF g (q + 1) z)[q]? = some y := by
  have hq := (List.getElem?_eq_some_iff.1 hy).1
  unfold rowF
  rw [List.append_assoc, List.getElem?_append_left (by rw [List.length_take]; omega), List.getElem?_take, if_pos (by omega), hy]
theorem rowF_down (g : List Wrd) (q : Nat) (y : Wrd) (hy : g[q]? = some y) : rowF g (q + 1) y = rowF g q y := by
  have hq := (List.getElem?_eq_some_iff.1 hy).1
  have hd : g.drop q = y :: g.drop (q + 1) := by
    rw [List.drop_eq_getElem_cons hq, (List.getElem?_eq_some_iff.1 hy).2]
  unfold rowF
  rw [hd, List.take_add_one, hy]
  simp
end Go.Proofs.YtljaibhhkjapmaaDoor

/- Words in order, plain: just those between two places begin so. -/
namespace Go.Proofs.YtljaibhhkjapmaaDoor
open Go.RowKit Go.Shelf

theorem pre_between (s v c : List UInt8) (h1 : ¬ v < s) (h2 : ¬ c < v) (h3 : s <+: c) : s <+: v := by
  induction s generalizing v c with
  | nil => exact List.nil_prefix
  | cons h t ih =>
    obtain ⟨c', rfl⟩ : ∃ c', c = h :: c' := by
      obtain ⟨q, hq⟩ := h3
      exact ⟨t ++ q, hq.symm⟩
    have h3' : t <+: c' := by
      obtain ⟨q, hq⟩ := h3
      exact ⟨q, by simpa using hq⟩
    cases v with
    | nil => exact absurd (List.nil_lt_cons h t) h1
    | cons k v =>
      rw [List.cons_lt_cons_iff] at h1 h2
      have e : k = h := by
        rcases UInt8.lt_or_eq_of_le (UInt8.not_lt.1 (fun hh => h1 (.inl hh))) with q | q
        · exact absurd (.inl q) h2
        · exact q.symm
      subst e
      have := ih v c' (fun hh => h1 (.inr ⟨rfl, hh⟩)) (fun hh => h2 (.inr ⟨rfl, hh⟩)) h3'
      obtain ⟨q, hq⟩ := this
      exact ⟨q, by rw [← hq]; rfl⟩
theorem lt_snoc (s : List UInt8) (b : UInt8) : s < s ++ [b] := by
  induction s with
  | nil => exact List.nil_lt_cons b []
  | cons h t ih => exact List.cons_lt_cons_iff.2 (.inr ⟨rfl, ih⟩)
theorem not_lt_pre {s v : List UInt8} (h : s <+: v) : ¬ v < s := by
  obtain ⟨q, rfl⟩ := h
  induction s with
  | nil => exact List.not_lt_nil _
  | cons a t ih =>
    intro hh
    rcases List.cons_lt_cons_iff.1 hh with h | ⟨_, h⟩
    · exact UInt8.lt_irrefl a h
    · exact ih h
theorem preK_iff (s x : ByteArray) : preK s x = true ↔ s.data.toList <+: x.data.toList := by
  unfold preK Lib.hasPrefix
  exact List.isPrefixOf_iff_prefix
theorem ltK_no {a b : ByteArray} : ltK a b = false ↔ ¬ a.data.toList < b.data.toList := by
  rw [← Bool.not_eq_true, ltK_iff]
/-- Just those between the places begin so. -/
theorem beg_just {l : List Wrd} (hs : SrtW l) (s : ByteArray) (i : Nat) (v : Wrd) (hv : l[i]? = some v) : preK s v.1 = (decide ((i : Int) ≥ (bgF l s : Int)) && decide ((i : Int) < (bgF l s : Int) + (bgN l s : Int))) := by
  obtain ⟨h1, h2⟩ := bgF_srt hs s
  obtain ⟨t1, t2⟩ := tw_at (fun x : Wrd => preK s x.1) (l.drop (bgF l s))
  have hN : ((l.drop (bgF l s)).takeWhile (fun x : Wrd => preK s x.1)).length = bgN l s := rfl
  rw [hN] at t1 t2
  rcases Nat.lt_or_ge i (bgF l s) with h | h
  · have h3 := h1 i v h hv
    have h4 : preK s v.1 = false := by
      cases hp : preK s v.1 with
      | false => rfl
      | true => exact absurd ((ltK_iff _ _).1 h3) (not_lt_pre ((preK_iff _ _).1 hp))
    rw [h4, decide_eq_false (by omega)]; rfl
  · rw [decide_eq_true (show (i : Int) ≥ (bgF l s : Int) by omega), Bool.true_and]
    rcases Nat.lt_or_ge i (bgF l s + bgN l s) with h' | h'
    · rw [decide_eq_true (by omega)]
      exact t1 (i - bgF l s) v (by omega) (by rw [List.getElem?_drop, show bgF l s + (i - bgF l s) = i by omega]; exact hv)
    · rw [decide_eq_false (by omega)]
      have hil := (List.getElem?_eq_some_iff.1 hv).1
      have hq : l[bgF l s + bgN l s]? = some l[bgF l s + bgN l s] := List.getElem?_eq_getElem (by omega)
      have h5 := t2 l[bgF l s + bgN l s] (by rw [List.getElem?_drop]; exact hq)
      have h6 := h2 _ _ (by omega) hq
      cases hp : preK s v.1 with
      | false => rfl
      | true =>
        have h7 : ¬ v.1.data.toList < (l[bgF l s + bgN l s]).1.data.toList := by
          rcases Nat.lt_or_eq_of_le h' with h8 | h8
          · have := (ltK_not (srtW_at hs h8 hq hv)).1
            exact ltK_no.1 this
          · have e : l[bgF l s + bgN l s] = v := by
              have : l[bgF l s + bgN l s]? = some v := by rw [h8]; exact hv
              rw [hq] at this; exact Option.some.inj this
            rw [e]; exact List.lt_irrefl _
        have h8 := pre_between _ _ _ (ltK_no.1 h6) h7 ((preK_iff _ _).1 hp)
        rw [(preK_iff _ _).2 h8] at h5
        cases h5
/-- With a byte more no others. -/
theorem beg_more {l : List Wrd} (hs : SrtW l) {s s2 : ByteArray} {b : UInt8} (e : s2.data.toList = s.data.toList ++ [b]) : bgF l s ≤ bgF l s2 ∧ bgF l s2 + bgN l s2 ≤ bgF l s + bgN l s := by
  obtain ⟨h1, h2⟩ := bgF_srt hs s
  obtain ⟨k1, k2⟩ := bgF_srt hs s2
  have hlt : ltK s s2 = true := by rw [ltK_iff, e]; exact lt_snoc _ _
  have hx : bgF l s ≤ bgF l s2 := by
    rcases Nat.lt_or_ge (bgF l s2) (bgF l s) with h | h
    · have hb : bgF l s2 < l.length := Nat.lt_of_lt_of_le h (bgF_le l s)
      have hq : l[bgF l s2]? = some l[bgF l s2] := List.getElem?_eq_getElem hb
      have h3 := k2 _ _ (Nat.le_refl _) hq
      rw [ltK_on (h1 _ _ h hq) hlt] at h3
      cases h3
    · exact h
  refine ⟨hx, ?_⟩
  have hz : bgF l s2 ≤ bgF l s + bgN l s := by
    rcases Nat.lt_or_ge (bgF l s + bgN l s) (bgF l s2) with h | h
    · exfalso
      have hb : bgF l s + bgN l s < l.length := Nat.lt_of_lt_of_le h (bgF_le l s2)
      have hq : l[bgF l s + bgN l s]? = some l[bgF l s + bgN l s] := List.getElem?_eq_getElem hb
      have h3 := k1 _ _ h hq
      have h4 := h2 _ _ (by omega) hq
      have h5 := pre_between _ _ _ (ltK_no.1 h4) (fun hh => by
        have := (ltK_iff _ _).1 h3
        exact List.lt_irrefl _ (List.lt_trans this hh)) (show s.data.toList <+: s2.data.toList from by rw [e]; exact List.prefix_append _ _)
      have h6 := beg_just hs s _ _ hq
      rw [(preK_iff _ _).2 h5, decide_eq_false (show ¬ ((bgF l s + bgN l s : Nat) : Int) < (bgF l s : Int) + (bgN l s : Int) by omega), Bool.and_false] at h6
      cases h6
    · exact h
  rcases Nat.eq_zero_or_pos (bgN l s2) with h | h
  · omega
  · have hle := bgN_le l s2
    have hq : l[bgF l s2 + bgN l s2 - 1]? = some l[bgF l s2 + bgN l s2 - 1] := List.getElem?_eq_getElem (by omega)
    have h6 := beg_just hs s2 _ _ hq
    rw [decide_eq_true (show ((bgF l s2 + bgN l s2 - 1 : Nat) : Int) ≥ (bgF l s2 : Int) by omega), decide_eq_true (show ((bgF l s2 + bgN l s2 - 1 : Nat) : Int) < (bgF l s2 : Int) + (bgN l s2 : Int) by omega)] at h6
    have h7 := (preK_iff _ _).1 h6
    rw [e] at h7
    have h8 : preK s (l[bgF l s2 + bgN l s2 - 1]).1 = true := (preK_iff _ _).2 ((List.prefix_append _ _).trans h7)
    have h9 := beg_just hs s _ _ hq
    rw [h8] at h9
    have h10 := h9.symm
    rw [Bool.and_eq_true, decide_eq_true_eq, decide_eq_true_eq] at h10
    omega
/-- The first ones stand ahead of those that are left out. -/
theorem bst_out {l : List Wrd} (hs : SrtW l) (k : Nat) (last w : Wrd) (hl : last ∈ (bst l).take k) (hw : w ∈ l) (hno : ∀ x ∈ (bst l).take k, x.1 ≠ w.1) : ¬ ltF w last := by
  have hp := bst_ltF hs
  rw [← List.take_append_drop k (bst l)] at hp
  have hm : w ∈ bst l := (bst_perm l).symm.subset hw
  rw [← List.take_append_drop k (bst l)] at hm
  rcases List.mem_append.1 hm with h | h
  · exact absurd rfl (hno w h)
  · exact ltF_not ((List.pairwise_append.1 hp).2.2 last hl w h)
theorem bst_keys {l : List Wrd} (hs : SrtW l) (k i : Nat) (x : Wrd) (hx : ((bst l).take k)[i]? = some x) : ¬ ∃ y ∈ ((bst l).take k).take i, y.1 = x.1 := by
  rintro ⟨y, hy, e⟩
  have hnd : (bst l).Pairwise (fun x y : Wrd => x.1 ≠ y.1) := by
    have key : ∀ l : List Wrd, SrtW l → l.Pairwise (fun x y : Wrd => x.1 ≠ y.1) := by
      intro l
      induction l with
      | nil => intro _; exact List.Pairwise.nil
      | cons a l ih => intro hs; exact List.pairwise_cons.2 ⟨fun y hy => (ltK_not (hs.1 y hy)).2, ih hs.2⟩
    exact ((bst_perm l).pairwise_iff (fun h => h.symm)).2 (key l hs)
  have hnd2 : ((bst l).take k).Pairwise (fun x y : Wrd => x.1 ≠ y.1) := hnd.sublist (List.take_sublist _ _)
  obtain ⟨j, hj⟩ := List.getElem?_of_mem hy
  rw [List.getElem?_take] at hj
  split at hj
  · rename_i hji
    obtain ⟨p1, rfl⟩ := List.getElem?_eq_some_iff.1 hj
    obtain ⟨p2, rfl⟩ := List.getElem?_eq_some_iff.1 hx
    exact List.pairwise_iff_getElem.1 hnd2 j i p1 p2 hji e
  · cases hj
theorem bst_next {l : List Wrd} (hs : SrtW l) (k i : Nat) (y x : Wrd) (hy : ((bst l).take k)[i]? = some y) (hx : ((bst l).take k)[i + 1]? = some x) : ltF y x := by
  have hp : ((bst l).take k).Pairwise ltF := (bst_ltF hs).sublist (List.take_sublist _ _)
  obtain ⟨p1, rfl⟩ := List.getElem?_eq_some_iff.1 hy
  obtain ⟨p2, rfl⟩ := List.getElem?_eq_some_iff.1 hx
  exact List.pairwise_iff_getElem.1 hp i (i + 1) p1 p2 (by omega)
end Go.Proofs.YtljaibhhkjapmaaDoor

/- Words as runes: they rise as their texts do; which words begin so, which are found, as rests. -/
namespace Go.Proofs.YtljaibhhkjapmaaDoor
open Go.RowKit Go.Shelf
set_option linter.unusedSimpArgs false
set_option linter.unusedVariables false

theorem cmpL_ltI : ∀ x y : List Int, cmpL x y = -1 ↔ x < y := by
  intro x
  induction x with
  | nil =>
    intro y
    cases y with
    | nil => simp [cmpL]
    | cons b y => simp [cmpL, List.nil_lt_cons]
  | cons a x ih =>
    intro y
    cases y with
    | nil => simp [cmpL]
    | cons b y =>
      rw [cmpL, List.cons_lt_cons_iff]
      by_cases h1 : a < b
      · rw [if_pos h1]; exact ⟨fun _ => .inl h1, fun _ => rfl⟩
      · rw [if_neg h1]
        by_cases h2 : b < a
        · rw [if_pos h2]
          exact ⟨fun h => absurd h (by decide), fun h => by omega⟩
        · rw [if_neg h2, ih y]
          have e : a = b := by omega
          exact ⟨fun h => .inr ⟨e, h⟩, fun h => h.elim (fun h => absurd h h1) (·.2)⟩
/-- The runes of a text. -/
def rnK (s : ByteArray) : List Int := items s.data.toList
theorem ltK_runes {a b : ByteArray} (ha : Lib.validD a.data.toList = true) (hb : Lib.validD b.data.toList = true) : ltK a b = true ↔ rnK a < rnK b := by
  have hcmp := cmp_enc (items a.data.toList) (items b.data.toList) (items_runes _ ha) (items_runes _ hb)
  rw [enc_items _ ha, enc_items _ hb] at hcmp
  rw [ltK_iff, ← (compareBytes_lt _ _).1, hcmp, cmpL_ltI]
  exact Iff.rfl
theorem rnK_inj {a b : ByteArray} (ha : Lib.validD a.data.toList = true) (hb : Lib.validD b.data.toList = true) (h : rnK a = rnK b) : a = b := by
  have e : items a.data.toList = items b.data.toList := h
  have h1 := enc_items _ ha
  rw [e, enc_items _ hb] at h1
  exact key_ext h1.symm
theorem tok_valid {s : List UInt8} (h : tokErr s = 0) : Lib.validD s = true := by
  unfold tokErr at h
  split at h
  · assumption
  · cases h
theorem wchk_valid {x : Wrd} (h : wchk x = 0) : Lib.validD x.1.data.toList = true := by
  unfold wchk at h
  split at h
  · rename_i h0; exact tok_valid h0
  · rename_i h0; exact absurd h h0
/-- Words as runes. -/
def rnW (l : List Wrd) : List (List Int) := l.map (fun x => rnK x.1)
theorem rnW_rising {l : List Wrd} (h : wisS l = 0) : (rnW l).Pairwise (· < ·) := by
  obtain ⟨h1, h2, h3⟩ := wisS_facts h
  have hv := fun b hb => wchk_valid (wall_zero.1 h1 b hb)
  clear h h1 h3
  induction l with
  | nil => exact List.Pairwise.nil
  | cons a l ih =>
    rw [rnW, List.map_cons, List.pairwise_cons]
    refine ⟨fun y hy => ?_, ih h2.2 (fun b hb => hv b (by simp [hb]))⟩
    obtain ⟨b, hb, rfl⟩ := List.mem_map.1 hy
    exact (ltK_runes (hv a (by simp)) (hv b (by simp [hb]))).1 (h2.1 b hb)
theorem mem_rnW {l : List Wrd} (h : wisS l = 0) {s : ByteArray} (hs : Lib.validD s.data.toList = true) : rnK s ∈ rnW l ↔ ∃ b ∈ l, b.1 = s := by
  have hv := fun b hb => wchk_valid (wall_zero.1 (wisS_facts h).1 b hb)
  rw [rnW, List.mem_map]
  constructor
  · rintro ⟨b, hb, e⟩
    exact ⟨b, hb, rnK_inj (hv b hb) hs e⟩
  · rintro ⟨b, hb, rfl⟩
    exact ⟨b, hb, rfl⟩
/-- How frequent words are changes no runes. -/
theorem rnW_same {l m : List Wrd} (h : l.map (·.1) = m.map (·.1)) : rnW l = rnW m := by
  have e : ∀ l : List Wrd, rnW l = (l.map (·.1)).map rnK := fun l => by rw [rnW, List.map_map]; rfl
  rw [e, e, h]
theorem encL_prefixK {a b : List Int} (ha : ∀ r ∈ a, Lib.validRune r = true) (hb : ∀ r ∈ b, Lib.validRune r = true) : encL a <+: encL b ↔ a <+: b := by
  constructor
  · rintro ⟨t, ht⟩
    have h1 := (items_encL a t ha).1
    have h2 := (items_encL b [] hb).1
    rw [ht, show encL b = encL b ++ [] from (List.append_nil _).symm, h2] at h1
    rw [show items [] = [] from rfl, List.append_nil] at h1
    exact ⟨_, h1.symm⟩
  · rintro ⟨t, ht⟩
    rw [← ht, encL_append]
    exact List.prefix_append _ _
theorem preK_runes {s x : ByteArray} (hs : Lib.validD s.data.toList = true) (hx : Lib.validD x.data.toList = true) : preK s x = true ↔ rnK s <+: rnK x := by
  rw [preK_iff]
  have h2 := encL_prefixK (items_runes _ hs) (items_runes _ hx)
  rw [enc_items _ hs, enc_items _ hx] at h2
  exact h2
/-- Words begin with a text just where its runes go on from the first state. -/
theorem begins_beh {l : List Wrd} (h : wisS l = 0) {s : ByteArray} (hs : Lib.validD s.data.toList = true) : behP (rnW l) (rnK s) ≠ [] ↔ 0 < bgN l s := by
  have hv := fun b hb => wchk_valid (wall_zero.1 (wisS_facts h).1 b hb)
  have hsr := (wisS_facts h).2.1
  rw [behP_ne]
  constructor
  · rintro ⟨t, ht⟩
    obtain ⟨b, hb, e⟩ := List.mem_map.1 ht
    obtain ⟨i, hi⟩ := List.mem_iff_getElem?.1 hb
    have h1 := beg_just hsr s i b hi
    rw [(preK_runes hs (hv b hb)).2 ⟨t, e.symm⟩] at h1
    have h2 := h1.symm
    rw [Bool.and_eq_true, decide_eq_true_eq, decide_eq_true_eq] at h2
    omega
  · intro h1
    have h2 := bgN_le l s
    have h3 : l[bgF l s]? = some l[bgF l s] := List.getElem?_eq_getElem (by omega)
    have h4 := beg_just hsr s _ _ h3
    rw [decide_eq_true (show ((bgF l s : Nat) : Int) ≥ (bgF l s : Int) by omega), decide_eq_true (show ((bgF l s : Nat) : Int) < (bgF l s : Int) + (bgN l s : Int) by omega)] at h4
    obtain ⟨t, ht⟩ := (preK_runes hs (hv _ (List.getElem_mem _))).1 h4
    exact ⟨t, List.mem_map.2 ⟨_, List.getElem_mem _, ht.symm⟩⟩
theorem srt_freq (f : Int) : ∀ l : List Wrd, SrtW l → SrtW (l.map fun b => (b.1, f)) := by
  intro l
  induction l with
  | nil => exact fun h => h
  | cons a l ih =>
    intro h
    refine ⟨fun b hb => ?_, ih h.2⟩
    obtain ⟨c, hc, rfl⟩ := List.mem_map.1 hb
    exact h.1 c hc
/-- Words stay normal, whatever numbers within bounds they bear. -/
theorem wisS_freq {l : List Wrd} (h : wisS l = 0) {f : Int} (h1 : 1 ≤ f) (h2 : f ≤ 1073741824) : wisS (l.map fun b => (b.1, f)) = 0 := by
  obtain ⟨g1, g2, g3⟩ := wisS_facts h
  have k1 : wall (l.map fun b => (b.1, f)) = 0 := wall_zero.2 (fun b hb => by
    obtain ⟨c, hc, rfl⟩ := List.mem_map.1 hb
    have := wall_zero.1 g1 c hc
    unfold wchk at this ⊢
    split at this
    · rename_i h0
      rw [if_pos h0, if_neg (by show ¬ (f < 1 ∨ 1073741824 < f); omega)]
    · rename_i h0
      exact absurd this h0)
  unfold wisS
  rw [if_pos k1, if_pos ((ordW_srt _).2 (srt_freq f l g2)), if_neg (by rw [List.length_map]; omega)]
/-- Gathered words have the same texts. -/
theorem wor_keys {l : List Wrd} (h : worE l = 0) (k : ByteArray) : (∃ z ∈ worS l, z.1 = k) ↔ ∃ y ∈ l, y.1 = k := by
  have hw : wall l = 0 := by
    unfold worE at h
    split at h
    · assumption
    · rename_i h0; exact absurd h h0
  have hf := frB_of hw
  rw [worS_eq h]
  constructor
  · rintro ⟨z, hz, rfl⟩
    obtain ⟨y, hy, e⟩ := nrmW_keys l z hz
    exact ⟨y, hy, e.symm⟩
  · intro h2
    obtain ⟨y, hy, rfl⟩ := h2
    refine Classical.byContradiction fun h3 => ?_
    have h4 := nrmW_frq hf y.1
    have h5 := frq_pos hf hy
    rw [(frq_zero (nrmW_frB hf)).2 (fun b hb e => h3 ⟨b, hb, e⟩)] at h4
    omega
/-- One word more among normal words: its runes come to theirs. -/
theorem rnW_more {l : List Wrd} {x : Wrd} (hl : wisS l = 0) (h : worE (l ++ [x]) = 0) (y : List Int) : y ∈ rnW (worS (l ++ [x])) ↔ y ∈ rnW l ∨ y = rnK x.1 := by
  have key : ∀ m : List Wrd, y ∈ rnW m ↔ ∃ k, (∃ z ∈ m, z.1 = k) ∧ rnK k = y := fun m => by
    rw [rnW, List.mem_map]
    exact ⟨fun ⟨z, hz, e⟩ => ⟨z.1, ⟨z, hz, rfl⟩, e⟩, fun ⟨k, ⟨z, hz, e⟩, e2⟩ => ⟨z, hz, by rw [e]; exact e2⟩⟩
  rw [key, key]
  constructor
  · rintro ⟨k, hk, e⟩
    obtain ⟨z, hz, e2⟩ := (wor_keys h k).1 hk
    rcases List.mem_append.1 hz with hz | hz
    · exact .inl ⟨k, ⟨z, hz, e2⟩, e⟩
    · rw [List.mem_singleton] at hz
      subst hz
      exact .inr (by rw [← e, ← e2])
  · rintro (⟨k, ⟨z, hz, e2⟩, e⟩ | rfl)
    · exact ⟨k, (wor_keys h k).2 ⟨z, by simp [hz], e2⟩, e⟩
    · exact ⟨x.1, (wor_keys h x.1).2 ⟨x, by simp, rfl⟩, rfl⟩
end Go.Proofs.YtljaibhhkjapmaaDoor

/- The automaton of words as it lies; States, Edges, Len, state, out, check: what they answer. -/
namespace Go.Proofs.YtljaibhhkjapmaaDoor
open Go.RowKit Go.Shelf
attribute [local go_sem] Oper.semAt_some
set_option linter.unusedSimpArgs false
set_option linter.unusedVariables false

/-- How frequent words are, as cells. -/
def frCell (x : Wrd) : List Value := [.int .i64 x.2]
theorem fr_ln (x : Wrd) : (frCell x).length = 1 := rfl
theorem fr_one (x : Wrd) : ∀ u ∈ frCell x, u.oneCell' = true := by
  intro u hu
  simp only [frCell, List.mem_cons, List.mem_nil_iff, or_false] at hu
  subst hu; rfl
/-- The automaton of words, as it lies at d: Q its states. -/
structure DgAt (w : World) (d : Nat) (Q : List Rst) (L : List Wrd) : Prop where
  run : ∃ vs ve vf, w.heap[d]? = some (.cells #[vs, ve, vf] 83) ∧ GRuns stCell 3 w vs (staK Q Q.length) ∧ GRuns edCell 3 w ve (edK Q Q.length) ∧ GRuns frCell 1 w vf L
theorem DgAt.below {w w' : World} {d : Nat} {Q : List Rst} {L : List Wrd} (h : DgAt w d Q L) (hb : Below w.heap.size w w') : DgAt w' d Q L := by
  obtain ⟨vs, ve, vf, h1, h2, h3, h4⟩ := h.run
  exact ⟨vs, ve, vf, (hb.block d (Array.getElem?_eq_some_iff.1 h1).1).trans h1, h2.below hb, h3.below hb, h4.below hb⟩
theorem DgAt.lt {w : World} {d : Nat} {Q : List Rst} {L : List Wrd} (h : DgAt w d Q L) : d < w.heap.size := by
  obtain ⟨vs, ve, vf, h1, _⟩ := h.run
  exact (Array.getElem?_eq_some_iff.1 h1).1
theorem staK_len (Q : List Rst) (k : Nat) : (staK Q k).length = k := by unfold staK; rw [List.length_map, List.length_range]
theorem staK_at {Q : List Rst} {k i : Nat} (h : i < k) : (staK Q k)[i]? = some (staL Q i) := by
  unfold staK
  rw [List.getElem?_map, List.getElem?_range h]; rfl
theorem DgAt.parts {w : World} {d : Nat} {Q : List Rst} {L : List Wrd} (h : DgAt w d Q L) : ∃ As cs Ae ce Af cf, w.cell? ⟨d, 0, none⟩ = some (.slice As Q.length cs) ∧ w.cell? ⟨d, 1, none⟩ = some (.slice Ae (edK Q Q.length).length ce) ∧ w.cell? ⟨d, 2, none⟩ = some (.slice Af L.length cf) ∧
    GRuns stCell 3 w (.slice As Q.length cs) (staK Q Q.length) ∧ GRuns edCell 3 w (.slice Ae (edK Q Q.length).length ce) (edK Q Q.length) ∧ GRuns frCell 1 w (.slice Af L.length cf) L := by
  obtain ⟨vs, ve, vf, h1, h2, h3, h4⟩ := h.run
  obtain ⟨As, cs, e1⟩ := h2.slice
  obtain ⟨Ae, ce, e2⟩ := h3.slice
  obtain ⟨Af, cf, e3⟩ := h4.slice
  rw [staK_len] at e1
  subst e1 e2 e3
  refine ⟨As, cs, Ae, ce, Af, cf, ?_, ?_, ?_, h2, h3, h4⟩ <;> (rw [cell_of_row _ _ _ _ _ (0, 0) h1]; rfl)
theorem gr_sliced {α : Type} {enc : α → List Value} {k : Nat} {w : World} {A : Option Addr} {n c : Nat} {l : List α} (h : GRuns enc k w (.slice A n c) l) (hn : l.length = n) (i m : Nat) (hi : i ≤ m) (hm : m ≤ n) : GRuns enc k w (sliced A i m c k) ((l.drop i).take (m - i)) := by
  obtain ⟨A', c', e, hlc, ⟨hcm, hc0⟩, hx⟩ := h
  obtain ⟨rfl, rfl⟩ : A = A' ∧ c = c' := by simp at e; exact ⟨e.1, e.2.2⟩
  have hl : ((l.drop i).take (m - i)).length = m - i := by rw [List.length_take, List.length_drop]; omega
  refine ⟨if c = i then A else A.map (·.add (i * k)), c - i, by rw [hl]; rfl, by omega, ⟨by omega, fun e2 => ?_⟩, fun h0 => ?_⟩
  · split at e2
    · omega
    · cases A with
      | none => have := hc0 rfl; omega
      | some a => cases e2
  · rw [hl] at h0
    obtain ⟨b, o, eA, hb, hc⟩ := hx (by omega)
    subst eA
    refine ⟨b, o + i * k, ?_, hb, fun j x hj u v hu => ?_⟩
    · rw [if_neg (by omega)]
      simp [Addr.add]
    · have hj2 : l[i + j]? = some x := by
        rw [List.getElem?_take] at hj
        split at hj
        · rwa [List.getElem?_drop] at hj
        · cases hj
      have := hc (i + j) x hj2 u v hu
      rwa [show o + (i + j) * k + u = o + i * k + j * k + u by rw [Nat.add_mul]; omega] at this
theorem slice_edh {w : World} {A : Option Addr} {n c : Nat} {l : List Edg} (h : GRuns edCell 3 w (.slice A n c) l) (hn : l.length = n) (i m : Nat) (hi : i ≤ m) (hm : m ≤ n) :
    (∀ W, (Instr.slice 81 (.slice A n c) (some (.int .i32 (i : Int))) (some (.int .i32 (m : Int))) none).run Tryd.prog W = .ok (.slice (cutE A c i) (m - i) (c - i)) W) ∧ GRuns edCell 3 w (.slice (cutE A c i) (m - i) (c - i)) ((l.drop i).take (m - i)) := by
  have hr := gr_sliced h hn i m hi hm
  have hcap := gr_cap h
  refine ⟨fun W => ?_, by simpa [sliced, cutE] using hr⟩
  rw [run_slice_lh (ht := elemEd) (h0 := by omega) (h1 := by omega) (h2 := by omega), sizeEd]
  simp [Result.andThen, sliced, cutE]
/-- What New makes has so many states and edges that numbers hold them. -/
structure DgOk (Q : List Rst) (L : List Wrd) : Prop where
  q0 : 0 < Q.length
  qm : Q.length ≤ 5000001
  em : (edK Q Q.length).length ≤ 5000001
  lm : L.length ≤ 2000000

theorem bel_drewN (w : World) (n : Nat) : Below w.heap.size w (w.drewN n) := ⟨rfl, rfl, rfl, Nat.le_refl _, fun _ _ => rfl⟩
theorem states_any (w : World) (d : Nat) (Q : List Rst) (L : List Wrd) (h : DgAt w d Q L) (hk : DgOk Q L) : Calls Tryd.prog 15 #[.pointer (some ⟨d, 0, none⟩)] w fun e w' => e = .returned (.int .i64 (Q.length : Int)) ∧ w' = w := by
  obtain ⟨As, cs, Ae, ce, Af, cf, c0, c1, c2, _⟩ := h.parts
  obtain ⟨n, hn⟩ : ∃ z, Q.length = z := ⟨_, rfl⟩
  have h0 := hk.q0
  rw [hn] at c0 h0 ⊢
  have e1 : max (1 : Int) (n : Int) = (n : Int) := by omega
  clear h hk c1 c2 hn
  go_enter Tryd.func15, Tryd.ntmps15
  go_wp2
  go_ret
  exact ⟨by first | rfl | (simp; omega), rfl⟩
theorem edges_any (w : World) (d : Nat) (Q : List Rst) (L : List Wrd) (h : DgAt w d Q L) : Calls Tryd.prog 16 #[.pointer (some ⟨d, 0, none⟩)] w fun e w' => e = .returned (.int .i64 ((edK Q Q.length).length : Int)) ∧ w' = w := by
  obtain ⟨As, cs, Ae, ce, Af, cf, c0, c1, c2, _⟩ := h.parts
  obtain ⟨n, hn⟩ : ∃ z, (edK Q Q.length).length = z := ⟨_, rfl⟩
  rw [hn] at c1 ⊢
  clear h c0 c2 hn
  go_enter Tryd.func16, Tryd.ntmps16
  go_wp2
  go_ret
  exact ⟨rfl, rfl⟩
theorem len_any (w : World) (d : Nat) (Q : List Rst) (L : List Wrd) (h : DgAt w d Q L) : Calls Tryd.prog 18 #[.pointer (some ⟨d, 0, none⟩)] w fun e w' => e = .returned (.int .i64 (L.length : Int)) ∧ w' = w := by
  obtain ⟨As, cs, Ae, ce, Af, cf, c0, c1, c2, _⟩ := h.parts
  obtain ⟨n, hn⟩ : ∃ z, L.length = z := ⟨_, rfl⟩
  rw [hn] at c2 ⊢
  clear h c0 c1 hn
  go_enter Tryd.func18, Tryd.ntmps18
  go_wp2
  go_ret
  exact ⟨rfl, rfl⟩
theorem len_nil (w : World) : Calls Tryd.prog 18 #[.pointer none] w fun e w' => e = .returned (.int .i64 0) ∧ w' = w := by
  go_enter Tryd.func18, Tryd.ntmps18
  go_wp2
  go_ret
  exact ⟨rfl, rfl⟩
theorem state_any (w : World) (d : Nat) (Q : List Rst) (L : List Wrd) (h : DgAt w d Q L) (i : Nat) (hi : i < Q.length) : Calls Tryd.prog 50 #[.pointer (some ⟨d, 0, none⟩), .int .i64 (i : Int)] w fun e w' => e = .returned (.agg (stCell (staL Q i)).toArray) ∧ Below w.heap.size w w' := by
  obtain ⟨As, cs, Ae, ce, Af, cf, c0, c1, c2, hs, _⟩ := h.parts
  obtain ⟨b, o, rfl, hlt, hc⟩ := hs.cells (staK_len _ _) (by omega)
  have g0 := hc i _ (staK_at hi) 0 _ rfl
  have g1 := hc i _ (staK_at hi) 1 _ rfl
  have g2 := hc i _ (staK_at hi) 2 _ rfl
  show Calls Tryd.prog _ _ w fun e w' => e = .returned (.agg #[.int .i32 ((staL Q i).1 : Int), .int .i32 ((staL Q i).2.1 : Int), .bool (staL Q i).2.2]) ∧ _
  obtain ⟨⟨s1, s2, s3⟩, hst⟩ : ∃ z, staL Q i = z := ⟨_, rfl⟩
  obtain ⟨n, hn⟩ : ∃ z, Q.length = z := ⟨_, rfl⟩
  rw [hst] at g0 g1 g2 ⊢
  simp only [Nat.add_zero] at g0 g1 g2 ⊢
  rw [hn] at c0 hi
  have i1 : (i : Int) < (n : Int) := by omega
  have i2 : ((n : Int) == 0) = false := by simp; omega
  have i3 : ¬ (n : Int) = 0 := by omega
  have hb := bel_one w (.cells #[.int .i32 0, .int .i32 0, .bool false] 92)
  have k0 := cell_keep hb c0
  have k1 := cell_keep hb g0
  have k2 := cell_keep hb g1
  have k3 := cell_keep hb g2
  clear h c1 c2 hs hc hst hn c0 g0 g1 g2 hb
  go_enter Tryd.func50, Tryd.ntmps50
  go_wp2
  refine bodyPost_ret (v := .agg #[.int .i32 (s1 : Int), .int .i32 (s2 : Int), .bool s3]) ?_ rfl ⟨rfl, bel_one _ _⟩
  simp [results, Tryd.f50, go_sem]
theorem out_any (w : World) (d : Nat) (Q : List Rst) (L : List Wrd) (h : DgAt w d Q L) (hk : DgOk Q L) (i : Nat) (x : Rst) (hx : Q[i]? = some x) : Calls Tryd.prog 49 #[.pointer (some ⟨d, 0, none⟩), .agg (stCell (staL Q i)).toArray] w fun e w' => ∃ v, e = .returned v ∧ GRuns edCell 3 w' v (edE Q x) ∧ Below w.heap.size w w' := by
  obtain ⟨As, cs, Ae, ce, Af, cf, c0, c1, c2, _, hE, _⟩ := h.parts
  have hi : i < Q.length := (List.getElem?_eq_some_iff.1 hx).1
  obtain ⟨l1, l2⟩ := edK_le hi
  have hp := edK_part hx
  show Calls Tryd.prog _ #[_, .agg #[.int .i32 ((edK Q i).length : Int), .int .i32 ((edK Q (i + 1)).length : Int), .bool (decide ([] ∈ Q.getD i []))]] w _
  obtain ⟨n, hn⟩ : ∃ z, (edK Q Q.length).length = z := ⟨_, rfl⟩
  obtain ⟨a, ha⟩ : ∃ z, (edK Q i).length = z := ⟨_, rfl⟩
  obtain ⟨b, hb⟩ : ∃ z, (edK Q (i + 1)).length = z := ⟨_, rfl⟩
  obtain ⟨en, hen⟩ : ∃ z, decide ([] ∈ Q.getD i []) = z := ⟨_, rfl⟩
  rw [ha, hb] at l1 hp ⊢
  rw [hn] at l2 c1 hE
  rw [hb] at l2
  rw [hen]
  have hbd := hk.em
  rw [hn] at hbd
  have hb1 := bel_one w (.cells #[.int .i32 (a : Int), .int .i32 (b : Int), .bool en] 92)
  have hE1 := hE.below hb1
  obtain ⟨hr, hg⟩ := slice_edh hE1 hn a b l1 l2
  have e2 : ((edK Q Q.length).drop a).take (b - a) = edE Q x := by rw [← hp, List.drop_take]
  rw [e2] at hg
  have HG := Lib.hid hg; have HB := Lib.hid hb1
  have k1 := cell_keep hb1 c1
  have e0 := heap_alloc_new w (.cells #[.int .i32 (a : Int), .int .i32 (b : Int), .bool en] 92)
  obtain ⟨W, hW⟩ : ∃ z, w.alloc (.cells #[.int .i32 (a : Int), .int .i32 (b : Int), .bool en] 92) = z := ⟨_, rfl⟩
  obtain ⟨B, hB⟩ : ∃ z, w.heap.size = z := ⟨_, rfl⟩
  rw [hW] at e0 HG HB k1
  rw [hB] at e0
  have s0 : W.cell? ⟨B, 0, none⟩ = some (.int .i32 (a : Int)) := by rw [cell_of_row _ _ _ _ _ (0, 0) e0]; rfl
  have s1 : W.cell? ⟨B, 1, none⟩ = some (.int .i32 (b : Int)) := by rw [cell_of_row _ _ _ _ _ (0, 0) e0]; rfl
  have HW := Lib.hid hW; have HBB := Lib.hid hB
  clear h hk c0 c1 c2 hE hx hi hp hn ha hb hen hE1 hg hb1 e2 e0 hW hB hbd
  go_enter Tryd.func49, Tryd.ntmps49
  go_wp2
  rw [HW.out, HBB.out]
  go_quiet (fail)
  go_wp2
  go_ret
  exact ⟨_, rfl, HG.out.below (bel_drewN _ _), HB.out.trans ((bel_drewN _ _).mono HB.out.size)⟩
end Go.Proofs.YtljaibhhkjapmaaDoor

/- runes.Compare (slices.Compare, cmp.Compare): the order of two lists. -/
namespace Go.Proofs.YtljaibhhkjapmaaDoor
open Go.RowKit

theorem isNaN_any (x : Int) (w : World) : Calls Tryd.prog 107 #[.int .i32 x] w fun e w' => e = .returned (.bool false) ∧ w = w' := by
  go_enter Tryd.func107, Tryd.ntmps107
  go_wp2
  go_ret
  exact ⟨by simp, rfl⟩
def cmpI (x y : Int) : Int := if x < y then -1 else if y < x then 1 else 0
set_option maxHeartbeats 1000000 in
theorem cmp32_any (x y : Int) (w : World) : Calls Tryd.prog 81 #[.int .i32 x, .int .i32 y] w fun e w' => e = .returned (.int .i64 (cmpI x y)) ∧ w = w' := by
  by_cases h1 : x < y
  · go_enter Tryd.func81, Tryd.ntmps81
    go_wp2_with (go_at_call 107; refine (isNaN_any _ _).mono ?_; rintro e w' ⟨rfl, rfl⟩)
    go_ret
    exact ⟨ret_int (by simp [cmpI, h1]), rfl⟩
  · by_cases h2 : y < x
    · go_enter Tryd.func81, Tryd.ntmps81
      go_wp2_with (go_at_call 107; refine (isNaN_any _ _).mono ?_; rintro e w' ⟨rfl, rfl⟩)
      go_ret
      exact ⟨ret_int (by unfold cmpI; rw [if_neg (by omega), if_pos (by omega)]), rfl⟩
    · go_enter Tryd.func81, Tryd.ntmps81
      go_wp2_with (go_at_call 107; refine (isNaN_any _ _).mono ?_; rintro e w' ⟨rfl, rfl⟩)
      go_ret
      exact ⟨ret_int (by unfold cmpI; rw [if_neg (by omega), if_neg (by omega)]), rfl⟩

end Go.Proofs.YtljaibhhkjapmaaDoor

/- slices.BinarySearchFunc over edges: by their runes, by how many stand ahead. -/
namespace Go.Proofs.YtljaibhhkjapmaaDoor
open Go.RowKit Go.Shelf Go.Lib
open Go.Sort (grow alloc_eq_grow grow_grow)
set_option linter.unusedSimpArgs false
set_option linter.unusedVariables false

theorem z_below_grows (w : World) (q : Nat) (os : Array Obj) : Below w.heap.size w (grow (w.drewN q) os) :=
  ⟨rfl, rfl, rfl, by simp [grow, World.drewN], fun k hk => by
    show (w.heap ++ os)[k]? = _
    rw [Array.getElem?_append_left hk]⟩
theorem z_grow_cell {w : World} {p : Addr} {v : Value} (q : Nat) (os : Array Obj) (h : w.cell? p = some v) : (grow (w.drewN q) os).cell? p = some v := cell_keep (z_below_grows w q os) h
theorem cmpI_neg (x y : Int) : cmpI x y < 0 ↔ x < y := by
  unfold cmpI
  split
  · simp; assumption
  · split <;> simp <;> omega
theorem cmpI_zero (x y : Int) : cmpI x y = 0 ↔ x = y := by
  unfold cmpI
  split
  · simp; omega
  · split <;> simp <;> omega
/-- The element at a place is the one that is looked for. -/
def eAt (key : Edg → Int) (l : List Edg) (m : Nat) (t : Int) : Bool := match l[m]? with
  | some y => decide (key y = t)
  | none => false

def keyR (e : Edg) : Int := e.1
set_option maxRecDepth 100000 in
set_option maxHeartbeats 4000000 in
theorem clsR_lays (a : Int) (b c : Nat) (t : Int) (w : World) :
    Calls Tryd.prog 80 #[.agg #[.int .i32 a, .int .i32 (b : Int), .int .i32 (c : Int)], .int .i32 t] w fun e w' => e = .returned (.int .i64 (cmpI (keyR (a, b, c)) t)) ∧ ∃ q os, w' = grow (w.drewN q) os := by
  show Calls Tryd.prog _ _ w fun e w' => e = .returned (.int .i64 (cmpI a t)) ∧ _
  have c1 := fun w => cmp32_any a t w
  obtain ⟨r, hr⟩ : ∃ r, cmpI a t = r := ⟨_, rfl⟩
  rw [hr] at c1 ⊢
  have C1 := Lib.hid c1
  clear c1 hr
  have h1 : Hid (∀ o : Obj, ∃ q os, w.alloc o = grow (w.drewN q) os) := Lib.hid (fun o => ⟨0, _, by rw [alloc_eq_grow]; rfl⟩)
  go_enter Tryd.func80, Tryd.ntmps80
  go_wp2_with fail
  refine (C1.out _).mono ?_
  rintro e w1 ⟨rfl, rfl⟩
  go_wp2
  go_ret
  exact ⟨rfl, h1.out _⟩

set_option maxRecDepth 100000 in
set_option maxHeartbeats 8000000 in
theorem ebsR_any (A : Option Addr) (n c : Nat) (l : List Edg) (t : Int) (w : World) (hn : l.length = n) (hu : GRuns edCell 3 w (.slice A n c) l) (hl : n ≤ 6000000) (m : Nat) (hm : m ≤ n)
    (h1 : ∀ j y, j < m → l[j]? = some y → keyR y < t) (h2 : ∀ j y, m ≤ j → l[j]? = some y → ¬ keyR y < t) :
    Calls Tryd.prog 79 #[.slice A n c, .int .i32 t, .func (.func 80) #[] #[]] w fun e w' =>
      e = .returned (.tuple #[.int .i64 (m : Nat), .bool (eAt keyR l m t)]) ∧ Below w.heap.size w w' := by
  have C := Lib.hid clsR_lays
  obtain ⟨res, hres⟩ : ∃ z, eAt keyR l m t = z := ⟨_, rfl⟩
  rw [hres]
  have HR := Lib.hid hres; clear hres
  have HU := Lib.hid hu
  have H1 := Lib.hid h1; have H2 := Lib.hid h2; have HN := Lib.hid hn
  clear h1 h2 hn hu
  go_enter Tryd.func79, Tryd.ntmps79
  have hmix : Tryd.prog.follows .mixedOrders = true := by kernel_rfl
  have eg : ∀ args w, (callFunc 80 args).run Tryd.prog w = .ok (.enter 80 args) w := enters_of Tryd.func80 (by kernel_rfl) rfl
  have HEG := Lib.hid eg; clear eg
  go_wp2
  go_loopg [9, 10] n (fun kx s9 s10 wr => ∃ lo hi : Nat, s9 = .int .i64 lo ∧ s10 = .int .i64 hi ∧ lo ≤ m ∧ m ≤ hi ∧ hi ≤ n ∧ hi - lo ≤ kx ∧ Hid (Below w.heap.size w wr))
  case atStart => exact ⟨0, n, rfl, rfl, Nat.zero_le _, hm, Nat.le_refl _, by omega, Lib.hid (Below.refl _ _)⟩
  case round =>
    obtain ⟨lo, hi, rfl, rfl, hlo, hhi, hin, hg, BW⟩ := hrel
    by_cases hlh : lo < hi
    · obtain ⟨h, hh⟩ : ∃ h, (lo + hi) / 2 = h := ⟨_, rfl⟩
      have hz : ((lo : Int) + (hi : Int)) / 2 = (h : Int) := by omega
      have hn1 : h < n := by omega
      have i1 : (h : Int) < (n : Int) := by omega
      obtain ⟨⟨y1, y2, y3⟩, hy⟩ : ∃ y, l[h]? = some y := ⟨_, List.getElem?_eq_getElem (by rw [HN.out]; exact hn1)⟩
      obtain ⟨b, o, rfl, hblt, hc⟩ := (HU.out.below BW.out).cells HN.out (by omega)
      have g0 := hc h _ hy 0 _ rfl
      have g1 := hc h _ hy 1 _ rfl
      have g2 := hc h _ hy 2 _ rfl
      simp only [Nat.add_zero] at g0 g1 g2
      have c1 := fun w => C.out y1 y2 y3 t w
      have h3 := cmpI_neg (keyR (y1, y2, y3)) t
      obtain ⟨er, her⟩ : ∃ z, cmpI (keyR (y1, y2, y3)) t = z := ⟨_, rfl⟩
      simp only [her] at c1
      rw [her] at h3
      have HY1 : Hid (er < 0 → h < m) := Lib.hid (fun e => by
          rcases Nat.lt_or_ge h m with q | q
          · exact q
          · exact absurd (h3.1 e) (by have := H2.out h _ q hy; omega))
      have HY2 : Hid (¬ er < 0 → m ≤ h) := Lib.hid (fun e => by
          rcases Nat.lt_or_ge h m with q | q
          · exact absurd (h3.2 (H1.out h _ q hy)) e
          · exact q)
      have C1 := Lib.hid c1
      clear hc hy h3 her c1
      have F0 := fun q os => z_grow_cell (w := wr) q os g0; have F1 := fun q os => z_grow_cell (w := wr) q os g1; have F2 := fun q os => z_grow_cell (w := wr) q os g2
      by_cases hneg : er < 0
      · have hlt' := HY1.out hneg
        go_wp2_with fail
        refine (C1.out _).mono ?_
        rintro e w4 ⟨rfl, q4, o4, h4⟩
        have b4 : Below wr.heap.size wr w4 := by rw [h4]; exact z_below_grows _ _ _
        have B4 := Lib.hid (BW.out.trans (b4.mono BW.out.size))
        clear h4 b4
        go_wp2
        go_roundg (hi - (h + 1))
        case measure => omega
        case rel => exact ⟨h + 1, hi, by go_num, rfl, by omega, hhi, hin, Nat.le_refl _, B4⟩
      · have hge := HY2.out hneg
        go_wp2_with fail
        refine (C1.out _).mono ?_
        rintro e w4 ⟨rfl, q4, o4, h4⟩
        have b4 : Below wr.heap.size wr w4 := by rw [h4]; exact z_below_grows _ _ _
        have B4 := Lib.hid (BW.out.trans (b4.mono BW.out.size))
        clear h4 b4
        go_wp2
        go_roundg (h - lo)
        case measure => omega
        case rel => exact ⟨lo, h, rfl, rfl, hlo, hge, by omega, Nat.le_refl _, B4⟩
    · obtain rfl : lo = m := by omega
      obtain rfl : hi = lo := by omega
      by_cases hmn : hi < n
      · have i1 : (hi : Int) < (n : Int) := by omega
        obtain ⟨⟨y1, y2, y3⟩, hy⟩ : ∃ y, l[hi]? = some y := ⟨_, List.getElem?_eq_getElem (by rw [HN.out]; exact hmn)⟩
        obtain ⟨b, o, rfl, hblt, hc⟩ := (HU.out.below BW.out).cells HN.out (by omega)
        have g0 := hc hi _ hy 0 _ rfl
        have g1 := hc hi _ hy 1 _ rfl
        have g2 := hc hi _ hy 2 _ rfl
        simp only [Nat.add_zero] at g0 g1 g2
        have c1 := fun w => C.out y1 y2 y3 t w
        have h3 := cmpI_zero (keyR (y1, y2, y3)) t
        obtain ⟨er, her⟩ : ∃ z, cmpI (keyR (y1, y2, y3)) t = z := ⟨_, rfl⟩
        simp only [her] at c1
        rw [her] at h3
        have hr : Hid (res = (er == 0)) := Lib.hid (by
          rw [← HR.out]
          unfold eAt
          rw [hy]
          simp only
          by_cases e : er = 0
          · rw [decide_eq_true (h3.1 e), e]; rfl
          · rw [decide_eq_false (fun q => e (h3.2 q))]; simp [e])
        have C1 := Lib.hid c1
        clear hc hy h3 her c1
        go_wp2_with fail
        refine (C1.out _).mono ?_
        rintro e w4 ⟨rfl, q4, o4, h4⟩
        have b4 : Below wr.heap.size wr w4 := by rw [h4]; exact z_below_grows _ _ _
        have B4 := Lib.hid (BW.out.trans (b4.mono BW.out.size))
        clear h4 b4
        go_wp2
        go_ret2
        exact ⟨by rw [hr.out]; rfl, B4.out⟩
      · obtain rfl : hi = n := by omega
        have hr : Hid (res = false) := Lib.hid (by
          rw [← HR.out]
          unfold eAt
          rw [List.getElem?_eq_none (by rw [HN.out]; exact Nat.le_refl _)])
        have i1 : ¬ (hi : Int) < (hi : Int) := by omega
        go_wp2
        go_ret2
        exact ⟨by rw [hr.out]; rfl, BW.out⟩

def keyA (e : Edg) : Int := (e.2.2 : Int)
set_option maxRecDepth 100000 in
set_option maxHeartbeats 4000000 in
theorem clsA_lays (a : Int) (b c : Nat) (t : Int) (w : World) :
    Calls Tryd.prog 128 #[.agg #[.int .i32 a, .int .i32 (b : Int), .int .i32 (c : Int)], .int .i32 t] w fun e w' => e = .returned (.int .i64 (cmpI (keyA (a, b, c)) t)) ∧ ∃ q os, w' = grow (w.drewN q) os := by
  show Calls Tryd.prog _ _ w fun e w' => e = .returned (.int .i64 (cmpI (c : Int) t)) ∧ _
  have c1 := fun w => cmp32_any (c : Int) t w
  obtain ⟨r, hr⟩ : ∃ r, cmpI (c : Int) t = r := ⟨_, rfl⟩
  rw [hr] at c1 ⊢
  have C1 := Lib.hid c1
  clear c1 hr
  have h1 : Hid (∀ o : Obj, ∃ q os, w.alloc o = grow (w.drewN q) os) := Lib.hid (fun o => ⟨0, _, by rw [alloc_eq_grow]; rfl⟩)
  go_enter Tryd.func128, Tryd.ntmps128
  go_wp2_with fail
  refine (C1.out _).mono ?_
  rintro e w1 ⟨rfl, rfl⟩
  go_wp2
  go_ret
  exact ⟨rfl, h1.out _⟩

set_option maxRecDepth 100000 in
set_option maxHeartbeats 8000000 in
theorem ebsA_any (A : Option Addr) (n c : Nat) (l : List Edg) (t : Int) (w : World) (hn : l.length = n) (hu : GRuns edCell 3 w (.slice A n c) l) (hl : n ≤ 6000000) (m : Nat) (hm : m ≤ n)
    (h1 : ∀ j y, j < m → l[j]? = some y → keyA y < t) (h2 : ∀ j y, m ≤ j → l[j]? = some y → ¬ keyA y < t) :
    Calls Tryd.prog 79 #[.slice A n c, .int .i32 t, .func (.func 128) #[] #[]] w fun e w' =>
      e = .returned (.tuple #[.int .i64 (m : Nat), .bool (eAt keyA l m t)]) ∧ Below w.heap.size w w' := by
  have C := Lib.hid clsA_lays
  obtain ⟨res, hres⟩ : ∃ z, eAt keyA l m t = z := ⟨_, rfl⟩
  rw [hres]
  have HR := Lib.hid hres; clear hres
  have HU := Lib.hid hu
  have H1 := Lib.hid h1; have H2 := Lib.hid h2; have HN := Lib.hid hn
  clear h1 h2 hn hu
  go_enter Tryd.func79, Tryd.ntmps79
  have hmix : Tryd.prog.follows .mixedOrders = true := by kernel_rfl
  have eg : ∀ args w, (callFunc 128 args).run Tryd.prog w = .ok (.enter 128 args) w := enters_of Tryd.func128 (by kernel_rfl) rfl
  have HEG := Lib.hid eg; clear eg
  go_wp2
  go_loopg [9, 10] n (fun kx s9 s10 wr => ∃ lo hi : Nat, s9 = .int .i64 lo ∧ s10 = .int .i64 hi ∧ lo ≤ m ∧ m ≤ hi ∧ hi ≤ n ∧ hi - lo ≤ kx ∧ Hid (Below w.heap.size w wr))
  case atStart => exact ⟨0, n, rfl, rfl, Nat.zero_le _, hm, Nat.le_refl _, by omega, Lib.hid (Below.refl _ _)⟩
  case round =>
    obtain ⟨lo, hi, rfl, rfl, hlo, hhi, hin, hg, BW⟩ := hrel
    by_cases hlh : lo < hi
    · obtain ⟨h, hh⟩ : ∃ h, (lo + hi) / 2 = h := ⟨_, rfl⟩
      have hz : ((lo : Int) + (hi : Int)) / 2 = (h : Int) := by omega
      have hn1 : h < n := by omega
      have i1 : (h : Int) < (n : Int) := by omega
      obtain ⟨⟨y1, y2, y3⟩, hy⟩ : ∃ y, l[h]? = some y := ⟨_, List.getElem?_eq_getElem (by rw [HN.out]; exact hn1)⟩
      obtain ⟨b, o, rfl, hblt, hc⟩ := (HU.out.below BW.out).cells HN.out (by omega)
      have g0 := hc h _ hy 0 _ rfl
      have g1 := hc h _ hy 1 _ rfl
      have g2 := hc h _ hy 2 _ rfl
      simp only [Nat.add_zero] at g0 g1 g2
      have c1 := fun w => C.out y1 y2 y3 t w
      have h3 := cmpI_neg (keyA (y1, y2, y3)) t
      obtain ⟨er, her⟩ : ∃ z, cmpI (keyA (y1, y2, y3)) t = z := ⟨_, rfl⟩
      simp only [her] at c1
      rw [her] at h3
      have HY1 : Hid (er < 0 → h < m) := Lib.hid (fun e => by
          rcases Nat.lt_or_ge h m with q | q
          · exact q
          · exact absurd (h3.1 e) (by have := H2.out h _ q hy; omega))
      have HY2 : Hid (¬ er < 0 → m ≤ h) := Lib.hid (fun e => by
          rcases Nat.lt_or_ge h m with q | q
          · exact absurd (h3.2 (H1.out h _ q hy)) e
          · exact q)
      have C1 := Lib.hid c1
      clear hc hy h3 her c1
      have F0 := fun q os => z_grow_cell (w := wr) q os g0; have F1 := fun q os => z_grow_cell (w := wr) q os g1; have F2 := fun q os => z_grow_cell (w := wr) q os g2
      by_cases hneg : er < 0
      · have hlt' := HY1.out hneg
        go_wp2_with fail
        refine (C1.out _).mono ?_
        rintro e w4 ⟨rfl, q4, o4, h4⟩
        have b4 : Below wr.heap.size wr w4 := by rw [h4]; exact z_below_grows _ _ _
        have B4 := Lib.hid (BW.out.trans (b4.mono BW.out.size))
        clear h4 b4
        go_wp2
        go_roundg (hi - (h + 1))
        case measure => omega
        case rel => exact ⟨h + 1, hi, by go_num, rfl, by omega, hhi, hin, Nat.le_refl _, B4⟩
      · have hge := HY2.out hneg
        go_wp2_with fail
        refine (C1.out _).mono ?_
        rintro e w4 ⟨rfl, q4, o4, h4⟩
        have b4 : Below wr.heap.size wr w4 := by rw [h4]; exact z_below_grows _ _ _
        have B4 := Lib.hid (BW.out.trans (b4.mono BW.out.size))
        clear h4 b4
        go_wp2
        go_roundg (h - lo)
        case measure => omega
        case rel => exact ⟨lo, h, rfl, rfl, hlo, hge, by omega, Nat.le_refl _, B4⟩
    · obtain rfl : lo = m := by omega
      obtain rfl : hi = lo := by omega
      by_cases hmn : hi < n
      · have i1 : (hi : Int) < (n : Int) := by omega
        obtain ⟨⟨y1, y2, y3⟩, hy⟩ : ∃ y, l[hi]? = some y := ⟨_, List.getElem?_eq_getElem (by rw [HN.out]; exact hmn)⟩
        obtain ⟨b, o, rfl, hblt, hc⟩ := (HU.out.below BW.out).cells HN.out (by omega)
        have g0 := hc hi _ hy 0 _ rfl
        have g1 := hc hi _ hy 1 _ rfl
        have g2 := hc hi _ hy 2 _ rfl
        simp only [Nat.add_zero] at g0 g1 g2
        have c1 := fun w => C.out y1 y2 y3 t w
        have h3 := cmpI_zero (keyA (y1, y2, y3)) t
        obtain ⟨er, her⟩ : ∃ z, cmpI (keyA (y1, y2, y3)) t = z := ⟨_, rfl⟩
        simp only [her] at c1
        rw [her] at h3
        have hr : Hid (res = (er == 0)) := Lib.hid (by
          rw [← HR.out]
          unfold eAt
          rw [hy]
          simp only
          by_cases e : er = 0
          · rw [decide_eq_true (h3.1 e), e]; rfl
          · rw [decide_eq_false (fun q => e (h3.2 q))]; simp [e])
        have C1 := Lib.hid c1
        clear hc hy h3 her c1
        go_wp2_with fail
        refine (C1.out _).mono ?_
        rintro e w4 ⟨rfl, q4, o4, h4⟩
        have b4 : Below wr.heap.size wr w4 := by rw [h4]; exact z_below_grows _ _ _
        have B4 := Lib.hid (BW.out.trans (b4.mono BW.out.size))
        clear h4 b4
        go_wp2
        go_ret2
        exact ⟨by rw [hr.out]; rfl, B4.out⟩
      · obtain rfl : hi = n := by omega
        have hr : Hid (res = false) := Lib.hid (by
          rw [← HR.out]
          unfold eAt
          rw [List.getElem?_eq_none (by rw [HN.out]; exact Nat.le_refl _)])
        have i1 : ¬ (hi : Int) < (hi : Int) := by omega
        go_wp2
        go_ret2
        exact ⟨by rw [hr.out]; rfl, BW.out⟩
end Go.Proofs.YtljaibhhkjapmaaDoor

