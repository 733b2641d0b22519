/- Texts that several proofs of this seat share, one behind the other: DMap DSort DTal DAdd DMk DTbl DTable. -/
import Derived.Test.YtnognphjndpgkaaGreatDoorPk8
import Derived.DeepKeys4
import Derived.Maps.OwnSet
import Derived.Maps.RangeWalk
import Derived.WideKeyEntry
import Derived.Test.YtnognphjndpgkaaGreatDoorPk13
import Derived.Test.YtnognphjndpgkaaGreatDoorPk16
import Derived.Test.YtnognphjndpgkaaGreatDoorPk12
import Derived.Sort.OwnSorted
import Derived.Test.YtnognphjndpgkaaGreatDoorPk9
import Derived.BigQuiet
import Derived.StillTailTactics
import Derived.BigRegion
/- A map from the two sides of a block to how often it is there: its keys, what it reads as, one block more. -/
namespace Go.Proofs.YtnognphjndpgkaaGreatDoor
open Go.RowKit Go.Shelf
set_option linter.unusedSimpArgs false
set_option linter.unusedVariables false

theorem laidOut6 : laidOutB Tryz.prog = true := by kernel_rfl
theorem sides_law : WideMaps.KeyLaw Tryz.prog 70 := deep_law_laid (P := Tryz.prog) laidOut6 (m := 2) (by decide) (of_decide_eq_true (by kernel_rfl)) (by kernel_rfl) (by kernel_rfl)
theorem sides_keyed : Maps.Keyed Tryz.prog 70 := Maps.Keyed.of_law sides_law

/-- What the two sides read as, as a key. -/
def keyL (a b : ByteArray) : Lit := .string (keyBytes [.string a.data.toList, .string b.data.toList])
theorem klit_str (d : Nat) (s : ByteArray) (h : s.size ≤ maxLen) : Tryz.prog.keyLits (d + 1) 9 [.string s] = some [.string s.data.toList] := by
  simp [Program.keyLits, Tryz.underlying9, h]
theorem klit_str_inv (d : Nat) (v : Value) (ls : List Lit) (h : Tryz.prog.keyLits (d + 1) 9 [v] = some ls) : ∃ s : ByteArray, v = .string s ∧ s.size ≤ maxLen := by
  cases v <;> simp [Program.keyLits, Tryz.underlying9] at h
  exact ⟨_, rfl, h.1⟩
theorem cellsStr : Tryz.prog.cellsOf 9 = 1 := by kernel_rfl
theorem cellsSides : Tryz.prog.cellsOf 70 = 2 := by kernel_rfl
theorem keyTypeSides : Tryz.prog.keyType 70 = true := by kernel_rfl
theorem typesSize : ∃ d, Tryz.prog.types.size + 1 = d + 1 + 1 := ⟨Tryz.prog.types.size - 1, by
  have h : 1 ≤ Tryz.prog.types.size := by
    have : 70 < Tryz.prog.types.size := of_decide_eq_true (by kernel_rfl)
    omega
  omega⟩
theorem klit_sides (d : Nat) (u v : Value) : Tryz.prog.keyLits (d + 1 + 1) 70 [u, v] = (Tryz.prog.keyLits (d + 1) 9 [u]).bind fun x => (Tryz.prog.keyLits (d + 1) 9 [v]).map fun y => x ++ y := by
  conv => lhs; unfold Program.keyLits
  simp only [Tryz.underlying70, cellsSides, cellsStr]
  cases h1 : Tryz.prog.keyLits (d + 1) 9 [u] with
  | none => simp [h1, cellsStr]
  | some x =>
    cases h2 : Tryz.prog.keyLits (d + 1) 9 [v] with
    | none => simp [h1, h2, cellsStr]
    | some y => simp [h1, h2, cellsStr]
theorem keyOf_sides (a b : ByteArray) (ha : a.size ≤ maxLen) (hb : b.size ≤ maxLen) : keyOf Tryz.prog 70 (.agg #[.string a, .string b]) = some (keyL a b) := by
  obtain ⟨d, hd⟩ := typesSize
  unfold keyOf
  rw [Tryz.underlying70]
  simp only [keyTypeSides, Bool.true_and]
  rw [if_pos (by simp [Value.formed, Tryz.underlying70, cellsSides]), hd]
  show Option.map _ (Tryz.prog.keyLits (d + 1 + 1) 70 [.string a, .string b]) = _
  rw [klit_sides, klit_str d a ha, klit_str d b hb]
  rfl
set_option maxRecDepth 100000 in
theorem keyOf_sides_inv (v : Value) (kl : Lit) (h : keyOf Tryz.prog 70 v = some kl) : ∃ a b : ByteArray, v = .agg #[.string a, .string b] ∧ a.size ≤ maxLen ∧ b.size ≤ maxLen ∧ kl = keyL a b := by
  obtain ⟨d, hd⟩ := typesSize
  have h0 := h
  unfold keyOf at h
  rw [Tryz.underlying70] at h
  simp only [keyTypeSides, Bool.true_and] at h
  split at h
  · rename_i hf
    cases v <;> simp [Value.formed, Tryz.underlying70, cellsSides] at hf
    rename_i cs
    obtain ⟨c0, c1, rfl⟩ : ∃ c0 c1, cs = #[c0, c1] := by
      obtain ⟨l⟩ := cs
      match l, hf with
      | [c0, c1], _ => exact ⟨c0, c1, rfl⟩
    rw [hd] at h
    change Option.map _ (Tryz.prog.keyLits (d + 1 + 1) 70 [c0, c1]) = _ at h
    rw [klit_sides] at h
    cases h1 : Tryz.prog.keyLits (d + 1) 9 [c0] with
    | none => rw [h1] at h; simp at h
    | some x =>
      cases h2 : Tryz.prog.keyLits (d + 1) 9 [c1] with
      | none => rw [h1, h2] at h; simp at h
      | some y =>
        obtain ⟨a, rfl, ha⟩ := klit_str_inv d c0 x h1
        obtain ⟨b, rfl, hb⟩ := klit_str_inv d c1 y h2
        refine ⟨a, b, rfl, ha, hb, ?_⟩
        rw [keyOf_sides a b ha hb] at h0
        exact (Option.some.inj h0).symm
  · cases h
theorem keyL_inj {a b c d : ByteArray} (ha : a.size ≤ maxLen) (hb : b.size ≤ maxLen) (hc : c.size ≤ maxLen) (hd : d.size ≤ maxLen) (h : keyL a b = keyL c d) : a = c ∧ b = d := by
  have h1 := keyOf_sides a b ha hb
  rw [h] at h1
  have := sides_keyed.inj h1 (keyOf_sides c d hc hd)
  simpa using this
theorem keyL_isKey (a b : ByteArray) : WideAt.IsKeyLit (keyL a b) := trivial

/-- What the map reads as, over a list of blocks. -/
structure View (D : DataW Unit) (t : List Blk) : Prop where
  at_ : ∀ a b : ByteArray, a.size ≤ maxLen → b.size ≤ maxLen → D.atKey (keyL a b) (.lit (.int .i64 0)) = .lit (.int .i64 (cnt t (a, b, 0)))
  has : ∀ kl, Maps.has D kl = true → ∃ a b : ByteArray, a.size ≤ maxLen ∧ b.size ≤ maxLen ∧ kl = keyL a b ∧ 0 < cnt t (a, b, 0)
  all : ∀ a b : ByteArray, a.size ≤ maxLen → b.size ≤ maxLen → 0 < cnt t (a, b, 0) → Maps.has D (keyL a b) = true
  size : Maps.size D = t.length
theorem View.none_ : View (.map []) [] where
  at_ a b _ _ := by rw [cnt_nil]; rfl
  has kl h := by simp [Maps.has] at h
  all a b _ _ h := by rw [cnt_nil] at h; omega
  size := rfl

theorem ins_len_eq {b : Blk} {l : List Blk} (hs : Srt l) (hp : posN l) : (insB b l).length = if 0 < cnt l b then l.length else l.length + 1 := by
  induction l with
  | nil => simp [insB, cnt_nil]
  | cons x t ih =>
    have hp' : posN t := fun z hz => hp z (by simp [hz])
    rw [insB]
    split
    · rename_i h1
      have hc : cnt (x :: t) b = cnt t b := by rw [cnt_cons, if_neg (less_not h1).2]; omega
      rw [List.length_cons, ih hs.2 hp', hc]
      split <;> simp
    · rename_i h1
      split
      · rename_i h2
        have h3 := cnt_nonneg hp' b
        have h4 := hp x (by simp)
        rw [cnt_cons, if_pos h2, if_pos (by omega)]
        simp
      · rename_i h2
        have hbx : lessB b x = true := by
          rcases less_one x b with ⟨h, _, _⟩ | ⟨_, h, _⟩ | ⟨_, _, h⟩
          · exact absurd h h1
          · exact h
          · exact absurd h h2
        rw [srt_below hs hbx, if_neg (by omega)]
        simp

/-- One block more. -/
theorem View.put {D : DataW Unit} {t : List Blk} (h : View D t) (hT : Maps.Tidy D) (hs : Srt t) (hp : posN t) (x : Blk) (hx1 : x.1.size ≤ maxLen) (hx2 : x.2.1.size ≤ maxLen) (hN : 1 ≤ x.2.2) :
    View (D.put (keyL x.1 x.2.1) (.lit (.int .i64 (cnt t (x.1, x.2.1, 0) + x.2.2)))) (insB x t) where
  at_ a b ha hb := by
    rw [ins_cnt]
    by_cases e : sameS x (a, b, 0)
    · obtain ⟨e1, e2⟩ := e
      simp only at e1 e2
      subst e1 e2
      rw [if_pos ⟨rfl, rfl⟩, Maps.atKey_put_same hT.isMap (keyL_isKey _ _)]
    · rw [if_neg e, Maps.atKey_put_other (fun e' => e (by have := keyL_inj ha hb hx1 hx2 e'; exact ⟨this.1.symm, this.2.symm⟩)), h.at_ a b ha hb]
      simp
  has kl hk := by
    by_cases e : kl = keyL x.1 x.2.1
    · refine ⟨x.1, x.2.1, hx1, hx2, e, ?_⟩
      rw [ins_cnt, if_pos ⟨rfl, rfl⟩]
      have := cnt_nonneg hp (x.1, x.2.1, 0)
      omega
    · rw [Maps.has_put_other e] at hk
      obtain ⟨a, b, ha, hb, e2, hc⟩ := h.has kl hk
      refine ⟨a, b, ha, hb, e2, ?_⟩
      rw [ins_cnt]
      split <;> omega
  all a b ha hb hc := by
    by_cases e : keyL a b = keyL x.1 x.2.1
    · rw [e]; exact Maps.has_put_same hT.isMap (keyL_isKey _ _) _
    · rw [Maps.has_put_other e]
      refine h.all a b ha hb ?_
      rw [ins_cnt, if_neg (fun e' => e (by obtain ⟨e1, e2⟩ := e'; simp only at e1 e2; rw [e1, e2]))] at hc
      omega
  size := by
    have hk : cnt t x = cnt t (x.1, x.2.1, 0) := rfl
    rw [Maps.size_put hT, h.size, ins_len_eq hs hp, hk]
    by_cases hc : 0 < cnt t (x.1, x.2.1, 0)
    · rw [if_pos (h.all _ _ hx1 hx2 hc), if_pos hc]
    · rw [if_neg hc, if_neg]
      intro hh
      obtain ⟨a, b, ha, hb, e, hcc⟩ := h.has _ hh
      obtain ⟨e1, e2⟩ := keyL_inj hx1 hx2 ha hb e
      rw [e1, e2] at hc
      exact hc hcc

/-- Blocks collected out of a map, whichever come first. -/
structure Coll (left : Lit → Bool) (cn : Nat) (L t : List Blk) : Prop where
  each : ∀ x ∈ L, x.1.size ≤ maxLen ∧ x.2.1.size ≤ maxLen ∧ x.2.2 = cnt t x ∧ 1 ≤ x.2.2 ∧ left (keyL x.1 x.2.1) = false
  apart : L.Pairwise (fun x y => ¬ sameS x y)
  rest : ∀ a b : ByteArray, a.size ≤ maxLen → b.size ≤ maxLen → 0 < cnt t (a, b, 0) → left (keyL a b) = true ∨ ∃ x ∈ L, sameS x (a, b, 0)
  len : L.length + cn ≤ t.length
theorem Coll.start {D : DataW Unit} {t : List Blk} (h : View D t) : Coll (Maps.has D) (Maps.size D) [] t where
  each x hx := by simp at hx
  apart := .nil
  rest a b ha hb hc := .inl (h.all a b ha hb hc)
  len := by rw [h.size]; simp
theorem Coll.more {left : Lit → Bool} {cn cn' : Nat} {L t : List Blk} (h : Coll left cn L t) (x : Blk) (h1 : x.1.size ≤ maxLen) (h2 : x.2.1.size ≤ maxLen) (h3 : x.2.2 = cnt t x) (h4 : 1 ≤ x.2.2) (hl : left (keyL x.1 x.2.1) = true) (hc : cn' < cn) :
    Coll (fun z => left z && !z.sameKey (keyL x.1 x.2.1)) cn' (L ++ [x]) t where
  each y hy := by
    rcases List.mem_append.1 hy with hy | hy
    · obtain ⟨k1, k2, k3, k4, k5⟩ := h.each y hy
      exact ⟨k1, k2, k3, k4, by rw [k5]; rfl⟩
    · obtain rfl : y = x := by simpa using hy
      refine ⟨h1, h2, h3, h4, ?_⟩
      have : (keyL y.1 y.2.1).sameKey (keyL y.1 y.2.1) = true := by simp [keyL, Lit.sameKey]
      rw [this]; simp
  apart := by
    refine List.pairwise_append.2 ⟨h.apart, by simp, fun a ha b hb e => ?_⟩
    obtain rfl : b = x := by simpa using hb
    obtain ⟨_, _, _, _, k5⟩ := h.each a ha
    rw [e.1, e.2, hl] at k5
    cases k5
  rest a b ha hb hcn := by
    rcases h.rest a b ha hb hcn with hlt | ⟨y, hy, e⟩
    · by_cases e : keyL a b = keyL x.1 x.2.1
      · obtain ⟨e1, e2⟩ := keyL_inj ha hb h1 h2 e
        exact .inr ⟨x, by simp, e1.symm, e2.symm⟩
      · left
        rw [hlt, Maps.sameKey_ne e]; rfl
    · exact .inr ⟨y, by simp [hy], e⟩
  len := by
    have := h.len
    simp only [List.length_append, List.length_cons, List.length_nil]
    omega
theorem cnt_apart {L : List Blk} (h : L.Pairwise (fun x y => ¬ sameS x y)) : ∀ x ∈ L, cnt L x = x.2.2 := by
  induction L with
  | nil => simp
  | cons a L ih =>
    intro x hx
    have h2 := List.pairwise_cons.1 h
    rw [cnt_cons]
    rcases List.mem_cons.1 hx with rfl | hx
    · rw [if_pos ⟨rfl, rfl⟩, cnt_none (fun b hb e => h2.1 b hb (sameS_symm e))]; omega
    · rw [if_neg (h2.1 x hx), ih h2.2 x hx]; omega
/-- When nothing is left, all is there. -/
theorem Coll.done {left : Lit → Bool} {cn : Nat} {L t : List Blk} (h : Coll left cn L t) (h0 : ∀ kl, left kl = false) (hp : posN t) (hz : ∀ x ∈ t, x.1.size ≤ maxLen ∧ x.2.1.size ≤ maxLen) (k : Blk) : cnt L k = cnt t k := by
  by_cases hx : ∃ x ∈ L, sameS x k
  · obtain ⟨x, hx, e⟩ := hx
    have h1 := cnt_apart h.apart x hx
    have h2 := (h.each x hx).2.2.1
    have e1 : ∀ l : List Blk, cnt l k = cnt l x := fun l => by
      induction l with
      | nil => rfl
      | cons a l ih =>
        rw [cnt_cons, cnt_cons, ih]
        have hi : sameS a k ↔ sameS a x := by unfold sameS; rw [e.1, e.2]
        by_cases h : sameS a k
        · rw [if_pos h, if_pos (hi.1 h)]
        · rw [if_neg h, if_neg (fun h' => h (hi.2 h'))]
    rw [e1, e1, h1, h2]
  · rw [cnt_none (fun b hb e => hx ⟨b, hb, e⟩)]
    by_cases hc : 0 < cnt t k
    · exfalso
      have hm : ∃ y ∈ t, sameS y k := by
        apply Classical.byContradiction
        intro hn
        rw [cnt_none (fun b hb e => hn ⟨b, hb, e⟩)] at hc
        omega
      obtain ⟨y, hy, e⟩ := hm
      have hz1 := hz y hy
      rw [e.1, e.2] at hz1
      rcases h.rest k.1 k.2.1 hz1.1 hz1.2 hc with hl | ⟨x, hx', e'⟩
      · rw [h0] at hl; cases hl
      · exact hx ⟨x, hx', e'⟩
    · have := cnt_nonneg hp k
      omega
theorem cnt_perm {a b : List Blk} (h : a.Perm b) (k : Blk) : cnt a k = cnt b k := by
  induction h with
  | nil => rfl
  | cons x _ ih => rw [cnt_cons, cnt_cons, ih]
  | swap x y l => rw [cnt_cons, cnt_cons, cnt_cons, cnt_cons]; omega
  | trans _ _ h1 h2 => exact h1.trans h2
/-- What was collected, in order. -/
theorem coll_gat {left : Lit → Bool} {cn : Nat} {L d l : List Blk} (h : Coll left cn L (gat l)) (h0 : ∀ kl, left kl = false) (hl : posN l) (hz : ∀ x ∈ gat l, x.1.size ≤ maxLen ∧ x.2.1.size ≤ maxLen) (hd : d.Perm L) (hs : d.Pairwise (fun x y => lessB y x = false)) : d = gat l := by
  have hap : d.Pairwise (fun x y => ¬ sameS x y) := (hd.symm.pairwise_iff (fun {a b} (h : ¬ sameS a b) e => h (sameS_symm e))).1 h.apart
  have hsr : Srt d := by
    clear hd
    induction d with
    | nil => trivial
    | cons a d ih =>
      have h1 := List.pairwise_cons.1 hs
      have h2 := List.pairwise_cons.1 hap
      refine ⟨fun b hb => ?_, ih h1.2 h2.2⟩
      rcases less_one a b with ⟨e, _, _⟩ | ⟨_, e, _⟩ | ⟨_, _, e⟩
      · exact e
      · rw [h1.1 b hb] at e; cases e
      · exact absurd e (h2.1 b hb)
  refine gat_uniq hl hsr (fun b hb => (h.each b (hd.mem_iff.1 hb)).2.2.2.1) (fun k => ?_)
  rw [cnt_perm hd k, h.done h0 (gat_pos hl) hz k, gat_cnt]
end Go.Proofs.YtnognphjndpgkaaGreatDoor

/- A row of blocks of the call's own, sorted by the library. -/
namespace Go.Proofs.YtnognphjndpgkaaGreatDoor
open Go.RowKit Go.Shelf Go.Lib
open Go.Sort (grow heap_grow_old putRow mapBlock onCells SWO PermIn SortedIn HoldsK flatK get_flatK size_flatK)
set_option linter.unusedSimpArgs false
set_option linter.unusedVariables false

/-- slices.SortFunc over a row of the call's own: what is in it, in order. -/
theorem sort_own (L : List Blk) (n : Nat) (u : Value) (base : Nat) (w : World) (hn : L.length = n) (hown : w.ownsRow base 34 3 u n (gCells blkCell L)) (hnn : u ≠ .slice none 0 0) (hl : n ≤ 2000000) (hbase : base ≤ w.heap.size) :
    Calls Tryz.prog 34 #[u, .func (.func 35) #[] #[]] w fun e w' => e = .returned (.tuple #[]) ∧
      ∃ d : List Blk, d.Perm L ∧ d.Pairwise (fun x y => lessB y x = false) ∧ BRuns w' u d ∧ (∃ g c, u = .slice (some ⟨g, 0, none⟩) n c ∧ ∀ j, j < n * 3 → w'.frozen? ⟨g, j, none⟩ = false) ∧ Below base w w' := by
  have hg := GRuns.of_own blk_ln hn hown
  rcases hown.2 with ⟨e, _⟩ | ⟨g, cap, cur, rfl, hb, hh, h1, h2, h3, h4⟩
  · exact absurd e hnn
  have hgl : g < w.heap.size := (Array.getElem?_eq_some_iff.1 hh).1
  have hH := holds_blks hn hg (own_thaw hown)
  have hs : L.toArray.size = n := by simpa using hn
  have c := sort_any g 0 cap L.toArray w hH hgl (by rw [hs]; omega)
  rw [hs] at c
  refine c.mono ?_
  rintro e w' ⟨rfl, d', q, os, hp, hso, rfl⟩
  obtain ⟨hp1, _, hp3⟩ := hp
  have hds : d'.size = n := by rw [hp1]; exact hs
  have e1 : d'.extract 0 n = d' := by rw [← hds]; simp
  have e2 : L.toArray.extract 0 n = L.toArray := by rw [← hs]; simp
  rw [e1, e2] at hp3
  have hdn : d'.toList.length = n := by simpa using hds
  have hH' := holdsK_sortWorldK_c blkCell 3 w g 0 L.toArray d' q os hH hgl (by rw [hds, hs])
  have hr := runs_holds (L := d'.toList) hdn h1 h2 (Nat.lt_of_lt_of_le hgl (size_sortWorldK_c blkCell 3 w g 0 q d' os)) (by simpa using hH')
  refine ⟨rfl, d'.toList, by simpa using hp3, ?_, hr.1, ⟨g, cap, rfl, hr.2⟩, (Below.refl base w).grown heap_sortB hbase (fun k hk => by cases hk; exact hb)⟩
  rw [List.pairwise_iff_getElem]
  intro i j hi hj hij
  have := hso i j (Nat.zero_le _) hij (by rw [← hdn]; exact hj)
  rw [ltOf_cmpB] at this
  have ei : d'[i]! = d'.toList[i] := by
    have : i < d'.size := by simpa using hi
    simp [this]
  have ej : d'[j]! = d'.toList[j] := by
    have : j < d'.size := by simpa using hj
    simp [this]
  rw [ei, ej] at this
  exact this
end Go.Proofs.YtnognphjndpgkaaGreatDoor

/- count.newTally, add: a tally of blocks in memory, one block more. -/
namespace Go.Proofs.YtnognphjndpgkaaGreatDoor
open Go.RowKit Go.Shelf
open Go.ChangeMaps (setBlock heap_setBlock_same heap_setBlock_other)
set_option linter.unusedSimpArgs false
set_option linter.unusedVariables false

/-- The blocks are too many for a table, or too often there. -/
def manyB (l : List Blk) : Bool := decide (1073741824 < sumN l ∨ 4096 < (gat l).length)
theorem manyB_false {l : List Blk} (h : manyB l = false) : sumN l ≤ 1073741824 ∧ (gat l).length ≤ 4096 := by
  simp [manyB] at h; omega
theorem ins_len_ge {b : Blk} {l : List Blk} : l.length ≤ (insB b l).length := by
  induction l with
  | nil => simp
  | cons x t ih =>
    rw [insB]
    split
    · simp only [List.length_cons]; omega
    · split <;> simp
theorem manyB_more {l : List Blk} (b : Blk) (hN : 1 ≤ b.2.2) (h : manyB l = true) : manyB (l ++ [b]) = true := by
  simp only [manyB, decide_eq_true_eq] at h ⊢
  have h1 := ins_len_ge (b := b) (l := gat l)
  rw [sumN_append, gat_snoc]
  simp only [sumN, List.map_cons, List.map_nil, List.sum_cons, List.sum_nil] at *
  omega
theorem manyB_big {l : List Blk} (b : Blk) (h : 1073741824 - sumN l < b.2.2) : manyB (l ++ [b]) = true := by
  simp only [manyB, decide_eq_true_eq]
  rw [sumN_append]
  simp only [sumN, List.map_cons, List.map_nil, List.sum_cons, List.sum_nil] at *
  omega
theorem manyB_fits {l : List Blk} (b : Blk) (h : ¬ 1073741824 - sumN l < b.2.2) : manyB (l ++ [b]) = decide (4096 < (insB b (gat l)).length) := by
  unfold manyB
  rw [gat_snoc, sumN_append]
  congr 1
  simp only [sumN, List.map_cons, List.map_nil, List.sum_cons, List.sum_nil] at *
  apply propext
  omega

abbrev TalMap (w : World) (m n : Nat) (D : DataW Unit) : Prop := w.ownsMap Tryz.prog 70 (plainElem Tryz.prog 3) m n D
/-- A tally of blocks lies at p, its map at m. -/
structure Tal (w : World) (base p m : Nat) (l : List Blk) : Prop where
  hp : base ≤ p
  hm : base ≤ m
  ne : m ≠ p
  lt : p < w.heap.size
  mb : ∃ es clock, w.heap[m]? = some (.map es clock)
  row : ∃ tot : Int, w.heap[p]? = some (.cells #[.map (some m), .int .i64 tot, .bool (manyB l)] 64 (0, 0)) ∧ (manyB l = false → tot = sumN l ∧ ∃ D, TalMap w m (gat l).length D ∧ View D (gat l))
theorem Tal.kept {w w' : World} {base p m : Nat} {l : List Blk} (h : Tal w base p m l) (hb : Below w.heap.size w w') : Tal w' base p m l := by
  obtain ⟨h1, h2, h3, h4, ⟨es, clock, h7⟩, tot, h5, h6⟩ := h
  refine ⟨h1, h2, h3, Nat.lt_of_lt_of_le h4 hb.size, ⟨es, clock, (hb.block m (Array.getElem?_eq_some_iff.1 h7).1).trans h7⟩, tot, (hb.block p h4).trans h5, fun hmn => ?_⟩
  obtain ⟨e, D, hD, hv⟩ := h6 hmn
  refine ⟨e, D, ?_, hv⟩
  obtain ⟨es, clock, hx, rest⟩ := hD
  exact ⟨es, clock, (hb.block m (Array.getElem?_eq_some_iff.1 hx).1).trans hx, rest⟩

/-- Nothing but two blocks has turned. -/
def Only (p m : Nat) (w w' : World) : Prop := w.heap.size ≤ w'.heap.size ∧ ∀ k, k < w.heap.size → k ≠ p → k ≠ m → w'.heap[k]? = w.heap[k]?
theorem Only.of_below {p m : Nat} {w w' : World} (h : Below w.heap.size w w') : Only p m w w' := ⟨h.size, fun k hk _ _ => h.block k hk⟩
theorem Only.trans {p m : Nat} {a b c : World} (h : Only p m a b) (g : Only p m b c) : Only p m a c := ⟨Nat.le_trans h.1 g.1, fun k hk h1 h2 => (g.2 k (Nat.lt_of_lt_of_le hk h.1) h1 h2).trans (h.2 k hk h1 h2)⟩
theorem Only.setCell {p m j : Nat} {a b : World} (h : Only p m a b) (u : Value) : Only p m a (b.setCell ⟨p, j, none⟩ u) := ⟨by
  show _ ≤ (b.heap.modify _ _).size
  rw [Array.size_modify]; exact h.1, fun k hk h1 h2 => (Below.heap_setCell b ⟨p, j, none⟩ u k h1).trans (h.2 k hk h1 h2)⟩
theorem Only.grown {p m : Nat} {a b c : World} (h : Only p m a b) (g : b.grownBy c (some m)) : Only p m a c := ⟨Nat.le_trans h.1 g.size, fun k hk h1 h2 => (g.block k (Nat.lt_of_lt_of_le hk h.1) (fun e => h2 (Option.some.inj e))).trans (h.2 k hk h1 h2)⟩
/-- A row of blocks is neither of the two. -/
theorem Tal.runs {w w' : World} {base p m : Nat} {l : List Blk} (h : Tal w base p m l) (ho : Only p m w w') {v : Value} {Y : List Blk} (hr : BRuns w v Y) : BRuns w' v Y := by
  obtain ⟨A, c, e, hc, hm, hx⟩ := hr
  refine ⟨A, c, e, hc, hm, fun h0 => ?_⟩
  obtain ⟨b, o, eA, hlt, hcell⟩ := hx h0
  obtain ⟨x, hx0⟩ : ∃ x, Y[0]? = some x := ⟨_, List.getElem?_eq_getElem h0⟩
  have hs := hcell 0 x hx0 0 _ rfl
  obtain ⟨es, clock, hmb⟩ := h.mb
  obtain ⟨tot, hrow, _⟩ := h.row
  have n1 : b ≠ p := fun e => by
    subst e
    rw [cell_of_row _ _ _ _ _ _ hrow] at hs
    have : o + 0 * 3 + 0 < 3 := (Array.getElem?_eq_some_iff.1 hs).1
    rcases (show o = 0 ∨ o = 1 ∨ o = 2 by omega) with h | h | h <;> subst h <;> simp at hs
  have n2 : b ≠ m := fun e => by
    subst e
    simp [World.cell?, hmb] at hs
  exact ⟨b, o, eA, Nat.lt_of_lt_of_le hlt ho.1, fun j x hj i u hu => (World.cell?_of_block (w := w) (ho.2 b hlt n1 n2)).trans (hcell j x hj i u hu)⟩

theorem int_zero (w : World) : (zeroValue 3).run Tryz.prog w = .ok (.int .i64 0) w := by kernel_rfl

set_option maxRecDepth 100000 in
set_option maxHeartbeats 4000000 in
theorem newTally_any (w : World) :
    Calls Tryz.prog 18 #[] w fun e w' => e = .returned (.pointer (some ⟨w.heap.size + 1, 0, none⟩)) ∧ Tal w' w.heap.size (w.heap.size + 1) w.heap.size [] ∧ Below w.heap.size w w' := by
  have hmm := @run_makeMap Tryz.prog
  have hend : Hid (Tal ((w.alloc (.map #[] 0)).alloc (.cells #[.map (some w.heap.size), .int .i64 0, .bool false] 64)) w.heap.size (w.heap.size + 1) w.heap.size [] ∧ Below w.heap.size w ((w.alloc (.map #[] 0)).alloc (.cells #[.map (some w.heap.size), .int .i64 0, .bool false] 64))) := Lib.hid ⟨⟨by omega, Nat.le_refl _, by omega, by simp, ⟨#[], 0, by
      have h1 := heap_alloc_new w (.map #[] 0)
      have h2 := ((Below.refl (w.alloc (.map #[] 0)).heap.size (w.alloc (.map #[] 0))).alloc (Nat.le_refl _) (.cells #[.map (some w.heap.size), .int .i64 0, .bool false] 64)).block w.heap.size (by simp)
      exact h2.trans h1⟩, 0, by
      have := heap_alloc_new (w.alloc (.map #[] 0)) (.cells #[.map (some w.heap.size), .int .i64 0, .bool false] 64)
      rwa [World.size_alloc] at this, fun _ => ⟨by simp [sumN], .map [], (World.ownsMap_made w Tryz.prog 70 (plainElem Tryz.prog 3)).alloc _, View.none_⟩⟩, ((Below.refl _ _).alloc (Nat.le_refl _) _).alloc (by simp) _⟩
  go_enter Tryz.func18, Tryz.ntmps18
  go_wp2
  go_ret
  exact ⟨rfl, hend.out.1, hend.out.2⟩

theorem cells_at {w : World} {p : Nat} {a b c : Value} {t : TypeId} (h : w.heap[p]? = some (.cells #[a, b, c] t (0, 0))) : w.cell? ⟨p, 0, none⟩ = some a ∧ w.cell? ⟨p, 1, none⟩ = some b ∧ w.cell? ⟨p, 2, none⟩ = some c ∧ (∀ j, w.frozen? ⟨p, j, none⟩ = false) := by
  refine ⟨?_, ?_, ?_, ?_⟩
  · rw [cell_of_row _ _ _ _ _ _ h]; rfl
  · rw [cell_of_row _ _ _ _ _ _ h]; rfl
  · rw [cell_of_row _ _ _ _ _ _ h]; rfl
  · intro j; simp [World.frozen?, h]
theorem set_row {w : World} {p : Nat} {cs : Array Value} {t : TypeId} (h : w.heap[p]? = some (.cells cs t (0, 0))) (j : Nat) (u : Value) : (w.setCell ⟨p, j, none⟩ u).heap[p]? = some (.cells (cs.setIfInBounds j u) t (0, 0)) := by
  obtain ⟨hlt, hk⟩ := Array.getElem?_eq_some_iff.1 h
  show (w.heap.modify p _)[p]? = _
  rw [Array.getElem?_eq_getElem (by rw [Array.size_modify]; exact hlt), Array.getElem_modify_self, hk]
  rfl
theorem size_set (w : World) (a : Addr) (u : Value) : (w.setCell a u).heap.size = w.heap.size := by
  show (w.heap.modify _ _).size = _
  rw [Array.size_modify]

/-- m[k] += v as it is run: the entry, then the store. -/
theorem entry_put {W : World} {m n : Nat} {D : DataW Unit} (h : TalMap W m n D) (hn : n < maxLen) (a b : ByteArray) (ha : a.size ≤ maxLen) (hb : b.size ≤ maxLen) (v : Int) (hv : (Lit.int .i64 v).wf = true) :
    ∃ v0 st W1 W2, (Instr.mapEntry 62 (.map (some m)) (.agg #[.string a, .string b])).run Tryz.prog W = .ok (.tuple #[v0, .int .i64 st]) W1 ∧
      (Instr.entryStore 62 (.map (some m)) (.int .i64 st) (.int .i64 v)).run Tryz.prog W1 = .ok () W2 ∧ TalMap W2 m (n + 1) (D.put (keyL a b) (.lit (.int .i64 v))) ∧ W.grownBy W2 (some m) := by
  have hkey := keyOf_sides a b ha hb
  obtain ⟨w', hrun, h1, h2⟩ := h.update (t := 62) (e := 3) sides_keyed Tryz.underlying62 hn hkey (plainElem_int Tryz.underlying3 hv)
  obtain ⟨es, clock, hb', F, hs, hD⟩ := h
  obtain ⟨v0, st, es1, clock1, hE, _, hS⟩ := WideElems.entry_then_store sides_law Tryz.underlying62 (z := .int .i64 0) (fun u => int_zero u) hb' F hkey
  obtain ⟨es', clock', hS1, hU⟩ := hS (setBlock W m (.map es1 clock1)) (.int .i64 v) (heap_setBlock_same hb' _)
  rw [hrun] at hU
  obtain rfl : w' = setBlock W m (.map es' clock') := by injection hU
  have e : setBlock (setBlock W m (.map es1 clock1)) m (.map es' clock') = setBlock W m (.map es' clock') := by
    simp [setBlock]
  rw [e] at hS1
  exact ⟨v0, st, _, _, hE, hS1, h1, h2⟩
end Go.Proofs.YtnognphjndpgkaaGreatDoor

/- count's tally.add: one block more. -/
namespace Go.Proofs.YtnognphjndpgkaaGreatDoor
open Go.RowKit Go.Shelf
open Go.ChangeMaps (setBlock heap_setBlock_same heap_setBlock_other)
set_option linter.unusedSimpArgs false
set_option linter.unusedVariables false

/-- The entry of a key: what is there, as if it were stored once more. -/
theorem entry_same {P : Program} {w : World} {t k e : TypeId} {H : Type} {R : Value → Option (DataW H × List MemPlace)} {b : Nat} {es : Array MapEntry} {clock : Nat} (K : WideMaps.KeyLaw P k) (ht : P.underlying t = some (.map k e)) {z : Value} (hz : ∀ u : World, (zeroValue e).run P u = .ok z u) (hb : w.heap[b]? = some (.map es clock)) (F : WideElems.Fit P k R es clock)
    {key : Value} {kl : Lit} (hkey : keyOf P k key = some kl) :
    ∃ (v0 : Value) (r : Value) (W1 : World), (Instr.mapEntry t (.map (some b)) key).run P w = .ok (.tuple #[v0, r]) W1 ∧ (Instr.lookup t (.map (some b)) key false).run P w = .ok v0 w ∧ (Instr.mapUpdate t (.map (some b)) key v0).run P w = .ok () W1 := by
  rcases K.find w hkey es.toList F.keys with ⟨h1, h2⟩ | ⟨j, e0, h1, h2, h3⟩
  · refine ⟨z, goInt clock, setBlock w b (.map (es.push ⟨key, z, clock⟩) (clock + 1)), ?_, ?_, ?_⟩
    · simp [Instr.mapEntry, run_underlying ht, MapKept.run_getObj_map hb, K.check w false hkey, h1, hz, MapKept.run_setObj_map _ hb, Result.andThen, setBlock]
    · simp [Instr.lookup, run_underlying ht, MapKept.run_getObj_map hb, K.check w _ hkey, h1, hz, Result.andThen]
    · simp [Instr.mapUpdate, run_underlying ht, MapKept.run_getObj_map hb, K.check w false hkey, h1, MapKept.run_setObj_map _ hb, Result.andThen, setBlock]
  · have hj : es[j]? = some e0 := by simpa using h2
    refine ⟨e0.val, goInt e0.born, setBlock w b (.map (es.modify j fun e => { e with key := key }) clock), ?_, ?_, ?_⟩
    · simp [Instr.mapEntry, run_underlying ht, MapKept.run_getObj_map hb, K.check w false hkey, h1, hj, h3, K.stays w hkey, MapKept.run_setObj_map _ hb, Result.andThen, setBlock]
    · simp [Instr.lookup, run_underlying ht, MapKept.run_getObj_map hb, K.check w _ hkey, h1, Result.andThen]
    · have hsame : (es.modify j fun e' => { e' with key := key, val := e0.val }) = es.modify j fun e => { e with key := key } := by
        apply Array.ext'
        rw [Array.toList_modify, Array.toList_modify, ChangeMaps.modify_eq_set _ _ _ _ h2, ChangeMaps.modify_eq_set _ _ _ _ h2]
      simp [Instr.mapUpdate, run_underlying ht, MapKept.run_getObj_map hb, K.check w false hkey, h1, hj, h3, K.stays w hkey, MapKept.run_setObj_map _ hb, Result.andThen, setBlock, hsame]
set_option maxRecDepth 100000 in
/-- m[k] += v, whichever comes first, the look or the entry. -/
theorem entry_all {W : World} {m n : Nat} {D : DataW Unit} (h : TalMap W m n D) (hn : n < 1000000) (a b : ByteArray) (ha : a.size ≤ maxLen) (hb : b.size ≤ maxLen) (v c : Int) (hv : (Lit.int .i64 v).wf = true) (hc : (Lit.int .i64 c).wf = true)
    (hlk : (Instr.lookup 62 (.map (some m)) (.agg #[.string a, .string b]) false).run Tryz.prog W = .ok (.int .i64 c) W) :
    ∃ st W1 W2, (Instr.mapEntry 62 (.map (some m)) (.agg #[.string a, .string b])).run Tryz.prog W = .ok (.tuple #[.int .i64 c, .int .i64 st]) W1 ∧
      (Instr.lookup 62 (.map (some m)) (.agg #[.string a, .string b]) false).run Tryz.prog W1 = .ok (.int .i64 c) W1 ∧
      (Instr.entryStore 62 (.map (some m)) (.int .i64 st) (.int .i64 v)).run Tryz.prog W1 = .ok () W2 ∧ TalMap W2 m (n + 1) (D.put (keyL a b) (.lit (.int .i64 v))) ∧ W.grownBy W2 (some m) := by
  have hkey := keyOf_sides a b ha hb
  obtain ⟨v0, st, W1, W2, hE, hS, hM, hG⟩ := entry_put h (by unfold maxLen; omega) a b ha hb v hv
  have h' := h
  obtain ⟨es, clock, hb', F, hs, hD⟩ := h'
  obtain ⟨v0', r, W1', hE', hL', hU'⟩ := entry_same sides_law Tryz.underlying62 (z := .int .i64 0) (fun u => int_zero u) hb' F hkey
  rw [hlk] at hL'
  obtain rfl : Value.int .i64 c = v0' := by injection hL'
  rw [hE] at hE'
  have e1 : W1 = W1' := by injection hE'
  have e2 : v0 = .int .i64 c := by
    injection hE' with q
    injection q with q
    have q1 := congrArg Array.toList q
    simp only [List.cons.injEq] at q1
    exact q1.1
  subst e1 e2
  obtain ⟨w', hrun, g1, g2⟩ := h.update (t := 62) (e := 3) sides_keyed Tryz.underlying62 (by unfold maxLen; omega) hkey (plainElem_int Tryz.underlying3 hc)
  rw [hU'] at hrun
  obtain rfl : W1 = w' := by injection hrun
  obtain ⟨c', hl1, hat, _⟩ := g1.lookup_int (t := 62) sides_keyed Tryz.underlying62 Tryz.underlying3 (int_zero _) hkey
  rw [Maps.atKey_put_same h.isMap (keyL_isKey _ _)] at hat
  obtain rfl : c = c' := by simpa using hat
  exact ⟨st, W1, W2, hE, hl1, hS, hM, hG⟩

theorem cnt_le {l : List Blk} (h : posN l) (k : Blk) : cnt l k ≤ sumN l := by
  induction l with
  | nil => simp [cnt_nil, sumN]
  | cons a l ih =>
    have h1 := ih (fun z hz => h z (by simp [hz]))
    have h2 := h a (by simp)
    rw [cnt_cons, sumN_cons]
    split <;> omega

set_option maxRecDepth 100000 in
set_option maxHeartbeats 8000000 in
theorem add_any (p m base : Nat) (l : List Blk) (b : Blk) (w : World) (hT : Tal w base p m l) (hbase : base ≤ w.heap.size) (hpos : posN l) (h1 : 1 ≤ b.2.2) (h2 : b.2.2 ≤ 1073741824) (hz1 : b.1.size ≤ 2000000) (hz2 : b.2.1.size ≤ 2000000) :
    Calls Tryz.prog 20 #[.pointer (some ⟨p, 0, none⟩), .agg #[.string b.1, .string b.2.1, .int .i64 b.2.2]] w fun e w' => e = .returned (.tuple #[]) ∧ Tal w' base p m (l ++ [b]) ∧ Below base w w' ∧ Only p m w w' := by
  obtain ⟨b1, b2, N⟩ := b
  simp only at h1 h2 hz1 hz2 ⊢
  obtain ⟨k1, k2, k3, k4, ⟨es0, clock0, hmb⟩, tot, hrow, hrest⟩ := hT
  have hal : Below w.heap.size w (w.alloc (.cells #[.string b1, .string b2, .int .i64 N] 34)) := (Below.refl _ _).alloc (Nat.le_refl _) _
  have hxr := heap_alloc_new w (.cells #[.string b1, .string b2, .int .i64 N] 34)
  obtain ⟨x0, x1, x2, x3⟩ := cells_at (heap_alloc_new w (.cells #[.string b1, .string b2, .int .i64 N] 34))
  have hrow1 := (hal.block p k4).trans hrow
  have hmb1 := (hal.block m (Array.getElem?_eq_some_iff.1 hmb).1).trans hmb
  have honly := Only.of_below (p := p) (m := m) hal
  have hsz : (w.alloc (.cells #[.string b1, .string b2, .int .i64 N] 34)).heap.size = w.heap.size + 1 := by simp
  have hmap1 : manyB l = false → tot = sumN l ∧ ∃ D, TalMap (w.alloc (.cells #[.string b1, .string b2, .int .i64 N] 34)) m (gat l).length D ∧ View D (gat l) := fun h => by
    obtain ⟨e, D, hD, hv⟩ := hrest h
    exact ⟨e, D, hD.alloc _, hv⟩
  obtain ⟨wa, hwa⟩ : ∃ z, w.alloc (.cells #[.string b1, .string b2, .int .i64 N] 34) = z := ⟨_, rfl⟩
  rw [hwa] at hmb1 honly hxr x0 x1 x2 x3 hrow1 hmap1 hal hsz
  have HWA := Lib.hid hwa
  have BA : Hid (Below base w wa) := Lib.hid (hal.mono hbase)
  obtain ⟨bx, hbx⟩ : ∃ z, w.heap.size = z := ⟨_, rfl⟩
  rw [hbx] at hxr x0 x1 x2 x3 hbase k4 hsz
  have HBX := Lib.hid hbx
  have hpa : p < wa.heap.size := by omega
  have HMB := Lib.hid hmb1; have HON := Lib.hid honly
  clear hwa hrow hrest hal hbx hmb hmb1 honly
  obtain ⟨y0, y1, y2, y3⟩ := cells_at hrow1
  have y3' := y3 2
  have y3t := y3 1
  have Y3 := Lib.hid y3; have X3 := Lib.hid x3
  clear y3 x3
  have HR := Lib.hid hrow1; have HXR := Lib.hid hxr; clear hrow1 hxr
  have hend : Hid (manyB (l ++ [(b1, b2, N)]) = true → ∀ k : Nat, Tal ((wa.drewN k).setCell ⟨p, 2, none⟩ (.bool true)) base p m (l ++ [(b1, b2, N)]) ∧ Below base w ((wa.drewN k).setCell ⟨p, 2, none⟩ (.bool true)) ∧ Only p m w ((wa.drewN k).setCell ⟨p, 2, none⟩ (.bool true))) := Lib.hid (fun hm k => by
    have hr : (wa.drewN k).heap[p]? = _ := HR.out
    refine ⟨⟨k1, k2, k3, by rw [size_set]; exact hpa, ⟨es0, clock0, (Below.heap_setCell (wa.drewN k) ⟨p, 2, none⟩ _ m k3).trans HMB.out⟩, tot, ?_, fun h => by rw [hm] at h; cases h⟩, (below_draws BA.out k).setCell k1 _, Only.setCell (b := wa.drewN k) HON.out _⟩
    rw [hm]
    exact set_row hr 2 (.bool true))
  cases hmn : manyB l with
  | true =>
    rw [hmn] at y2
    have hm' := Lib.hid (hend.out (manyB_more _ h1 hmn))
    clear hend hmn hmap1
    go_enter Tryz.func20, Tryz.ntmps20
    go_wp2_with fail
    rw [HWA.out, HBX.out]
    go_quiet (fail)
    go_wp2
    (try simp only [Exit.inBlock, Exit.then])
    refine bodyPost_ret (results_none rfl _ _ _) rfl ?_
    exact ⟨rfl, hm'.out _⟩
  | false =>
    rw [hmn] at y2
    obtain ⟨etot, D, hD, hV⟩ := hmap1 hmn
    clear hmap1
    obtain ⟨hs1, hs2⟩ := manyB_false hmn
    have hs0 := sumN_nonneg hpos
    rw [← etot] at hs1 hs0
    have hwr : IntKind.i64.wrap (1073741824 - tot) = 1073741824 - tot := by rw [IntKind.wrap_i64]; omega
    by_cases hbig : 1073741824 - tot < N
    · have hm' := Lib.hid (hend.out (manyB_big _ (by rw [← etot]; exact hbig)))
      have hd : decide (1073741824 - tot < N) = true := decide_eq_true hbig
      clear hend hmn hD hV etot
      go_enter Tryz.func20, Tryz.ntmps20
      go_wp2_with fail
      rw [HWA.out, HBX.out]
      go_quiet (fail)
      go_wp2
      (try simp only [Exit.inBlock, Exit.then])
      refine bodyPost_ret (results_none rfl _ _ _) rfl ?_
      exact ⟨rfl, hm'.out _⟩
    · have hd : decide (1073741824 - tot < N) = false := decide_eq_false hbig
      have hmf := manyB_fits (l := l) (b1, b2, N) (by rw [← etot]; exact hbig)
      have HMF := Lib.hid hmf
      have hmf2 : manyB l = false := by simp only [manyB, decide_eq_false_iff_not]; rw [← etot]; omega
      have HF2 := Lib.hid hmf2
      have ET := Lib.hid etot
      clear hend hmn hmf hmf2 etot
      have hwr2 : IntKind.i64.wrap (tot + N) = tot + N := by rw [IntKind.wrap_i64]; omega
      go_enter Tryz.func20, Tryz.ntmps20
      go_wp2_with fail
      rw [HWA.out, HBX.out]
      go_quiet (fail)
      go_wp2
      obtain ⟨w5, hw5⟩ : ∃ w5, w5 = wa.drewN nq := ⟨_, rfl⟩
      rw [← hw5]
      have hr5 : w5.heap[p]? = some (.cells #[.map (some m), .int .i64 tot, .bool false] 64 (0, 0)) := by rw [hw5, ← HF2.out]; exact HR.out
      have hx5 : w5.heap[bx]? = some (.cells #[.string b1, .string b2, .int .i64 N] 34 (0, 0)) := by rw [hw5]; exact HXR.out
      have hD5 : TalMap w5 m (gat l).length D := by rw [hw5]; exact hD
      have B5 : Hid (Below base w w5) := Lib.hid (by rw [hw5]; exact below_draws BA.out _)
      have N5 : Hid (Only p m w w5) := Lib.hid (by rw [hw5]; exact HON.out)
      have hp5 : p < w5.heap.size := by rw [hw5]; exact hpa
      clear hw5 hD x0 x1 x2 y0 y1 y2 HR HXR BA Y3 X3 y3' y3t hwr HWA HBX HF2
      have HR5 := Lib.hid hr5; have HX5 := Lib.hid hx5; have HD5 := Lib.hid hD5; clear hr5 hx5 hD5
      obtain ⟨y0, y1, y2, y3⟩ := cells_at HR5.out
      obtain ⟨x0, x1, x2, x3⟩ := cells_at HX5.out
      go_still_tail 9, (by kernel_rfl)
      change wpList _ _ _ _ _ w5.drew
      clear y0 y1 y2 y3 x0 x1 x2 x3
      obtain ⟨w6, hw6⟩ : ∃ w6, w6 = w5.drew := ⟨_, rfl⟩
      rw [← hw6]
      have HR6 : Hid (w6.heap[p]? = some (.cells #[.map (some m), .int .i64 tot, .bool false] 64 (0, 0))) := Lib.hid (by rw [hw6]; exact HR5.out)
      have HX6 : Hid (w6.heap[bx]? = some (.cells #[.string b1, .string b2, .int .i64 N] 34 (0, 0))) := Lib.hid (by rw [hw6]; exact HX5.out)
      have HD6 : Hid (TalMap w6 m (gat l).length D) := Lib.hid (by rw [hw6]; exact HD5.out)
      have B6 : Hid (Below base w w6) := Lib.hid (by rw [hw6]; exact B5.out.drew)
      have N6 : Hid (Only p m w w6) := Lib.hid (by rw [hw6]; exact N5.out)
      have hp6 : p < w6.heap.size := by rw [hw6]; exact hp5
      clear hw6 HR5 HX5 HD5 B5 hp5
      obtain ⟨y0, y1, y2, y3⟩ := cells_at HR6.out
      have y31 := y3 1
      clear y3
      go_wp2
      obtain ⟨w7, hw7⟩ : ∃ w7, w7 = w6.setCell ⟨p, 1, none⟩ (.int .i64 (tot + N)) := ⟨_, rfl⟩
      rw [← hw7]
      have hbp : bx ≠ p := by omega
      have HR7 : Hid (w7.heap[p]? = some (.cells #[.map (some m), .int .i64 (tot + N), .bool false] 64 (0, 0))) := Lib.hid (by rw [hw7]; exact set_row HR6.out 1 _)
      have HX7 : Hid (w7.heap[bx]? = some (.cells #[.string b1, .string b2, .int .i64 N] 34 (0, 0))) := Lib.hid (by rw [hw7]; exact (Below.heap_setCell w6 ⟨p, 1, none⟩ _ bx hbp).trans HX6.out)
      have HD7 : Hid (TalMap w7 m (gat l).length D) := Lib.hid (by rw [hw7]; exact HD6.out.setCell (a := ⟨p, 1, none⟩) k3 _)
      have B7 : Hid (Below base w w7) := Lib.hid (by rw [hw7]; exact B6.out.setCell (p := ⟨p, 1, none⟩) k1 _)
      have N7 : Hid (Only p m w w7) := Lib.hid (by rw [hw7]; exact N6.out.setCell _)
      have hp7 : p < w7.heap.size := by rw [hw7, size_set]; exact hp6
      clear hw7 HR6 HX6 HD6 B6 hp6 y0 y1 y2 y31
      obtain ⟨y0, y1, y2, y3⟩ := cells_at HR7.out
      obtain ⟨x0, x1, x2, x3⟩ := cells_at HX7.out
      clear y3 x3
      have hml1 : b1.size ≤ maxLen := by unfold maxLen; omega
      have hml2 : b2.size ≤ maxLen := by unfold maxLen; omega
      have HD7' : TalMap w7.drew m (gat l).length D := HD7.out
      obtain ⟨c, hlk, hat, _⟩ := HD7'.lookup_int sides_keyed Tryz.underlying62 Tryz.underlying3 (int_zero _) (keyOf_sides b1 b2 hml1 hml2)
      have hcc : c = cnt (gat l) (b1, b2, 0) := by
        rw [hV.at_ b1 b2 hml1 hml2] at hat
        simpa using hat.symm
      clear hat
      have hc0 : 0 ≤ c := by rw [hcc]; exact cnt_nonneg (gat_pos hpos) _
      have hc1 : c ≤ 1073741824 := by
        rw [hcc, gat_cnt]
        have h3 := cnt_le hpos (b1, b2, 0)
        rw [← ET.out] at h3
        omega
      have hwr3 : IntKind.i64.wrap (c + N) = c + N := by rw [IntKind.wrap_i64]; omega
      have HCC := Lib.hid hcc; clear hcc
      obtain ⟨st, W1, W2, hE, hlk1, hS, hM, hG⟩ := entry_all HD7' (by omega) b1 b2 hml1 hml2 (c + N) c (WalkArith.wf_i64 (by omega)) (WalkArith.wf_i64 (by omega)) hlk
      have HM := Lib.hid hM; have HG := Lib.hid hG; have HV := Lib.hid hV
      clear hM hG hV HD7'
      go_region
      have HR8 : Hid (W2.heap[p]? = some (.cells #[.map (some m), .int .i64 (tot + N), .bool false] 64 (0, 0))) := Lib.hid ((HG.out.block p hp7 (fun e => k3 (Option.some.inj e).symm)).trans HR7.out)
      have B8 : Hid (Below base w W2) := Lib.hid ((B7.out.drew).grown HG.out (Nat.le_of_lt (Nat.lt_of_le_of_lt k1 hp7)) (fun k hk => by cases hk; exact k2))
      have hp8 : p < W2.heap.size := Nat.lt_of_lt_of_le hp7 HG.out.size
      have N8 : Hid (Only p m w W2) := Lib.hid (Only.grown (b := w7.drew) N7.out HG.out)
      have hV2 := HV.out.put (HD7.out.tidy sides_keyed) (gat_srt l) (gat_pos hpos) (b1, b2, N) hml1 hml2 h1
      simp only at hV2
      rw [← HCC.out] at hV2
      obtain ⟨sz, hsz⟩ : ∃ z, Maps.size (D.put (keyL b1 b2) (.lit (.int .i64 (c + N)))) = z := ⟨_, rfl⟩
      have hsz2 : (insB (b1, b2, N) (gat l)).length = sz := by rw [← hsz]; exact hV2.size.symm
      have hszl : sz ≤ 4097 := by
        have := ins_len (b1, b2, N) (gat l)
        omega
      have HSZ := Lib.hid hsz; have HV2 := Lib.hid hV2
      have hmf := HMF.out
      rw [hsz2] at hmf
      have HMF2 := Lib.hid hmf
      have HSZ2 := Lib.hid hsz2
      clear hsz hV2 hsz2 hmf HMF hE hlk1 hS hlk y0 y1 y2 x0 x1 x2
      have hend2 : Hid (Tal (W2.setCell ⟨p, 2, none⟩ (.bool (decide (4096 < sz)))) base p m (l ++ [(b1, b2, N)]) ∧ Below base w (W2.setCell ⟨p, 2, none⟩ (.bool (decide (4096 < sz)))) ∧ Only p m w (W2.setCell ⟨p, 2, none⟩ (.bool (decide (4096 < sz))))) := Lib.hid ⟨⟨k1, k2, k3, by rw [size_set]; exact hp8, by
        obtain ⟨es, clock, q1, _⟩ := HM.out
        exact ⟨es, clock, (Below.heap_setCell W2 ⟨p, 2, none⟩ _ m k3).trans q1⟩, tot + N, by
        rw [HMF2.out]; exact set_row HR8.out 2 _, fun hm => ⟨by rw [sumN_append, ET.out]; simp [sumN], _, by
          rw [gat_snoc, HSZ2.out]
          have h0 : TalMap W2 m sz (D.put (keyL b1 b2) (.lit (.int .i64 (c + N)))) := by
            obtain ⟨es, clock, q1, q2, q3, q4⟩ := HM.out
            refine ⟨es, clock, q1, q2, ?_, q4⟩
            rw [← HSZ.out, q4]
            show es.size ≤ List.length _
            rw [length_read]
            exact Nat.le_refl _
          exact h0.setCell (a := ⟨p, 2, none⟩) k3 _, by rw [gat_snoc]; exact HV2.out⟩⟩, B8.out.setCell (p := ⟨p, 2, none⟩) k1 _, N8.out.setCell _⟩
      obtain ⟨y0, y1, y2, y3⟩ := cells_at HR8.out
      have y32 := y3 2
      clear y3
      have hcs : (∃ _ : (4096 : Int) < (sz : Int), decide (4096 < sz) = true) ∨ (∃ _ : ¬ (4096 : Int) < (sz : Int), decide (4096 < sz) = false) := by
        by_cases h : 4096 < sz
        · exact .inl ⟨by omega, decide_eq_true h⟩
        · exact .inr ⟨by omega, decide_eq_false h⟩
      rcases hcs with ⟨hc4, hd4⟩ | ⟨hc4, hd4⟩
      all_goals
        rw [hd4] at hend2
        clear hd4
        go_wp2_with (first
          | (at_len; refine wpList_len_own _ rfl _ 62 rfl 70 3 Tryz.underlying62 _ m _ _ rfl HM.out ?_; rw [HSZ.out])
          | go_in)
        go_end0
        exact ⟨rfl, hend2.out⟩
end Go.Proofs.YtnognphjndpgkaaGreatDoor

/- A row of blocks that is made. -/
namespace Go.Proofs.YtnognphjndpgkaaGreatDoor
open Go.RowKit Go.Shelf
set_option linter.unusedSimpArgs false
set_option linter.unusedVariables false

theorem make_blks (w : World) (c : Nat) (hc : c ≤ 2000000) : ∃ w', (Instr.makeSlice 35 (.int .i64 0) (.int .i64 (c : Int))).run Tryz.prog w = .ok (.slice (some ⟨w.heap.size, 0, none⟩) 0 c) w' ∧
    w'.ownsRow w.heap.size 34 3 (.slice (some ⟨w.heap.size, 0, none⟩) 0 c) 0 [] ∧ w.grownBy w' none := by
  obtain ⟨i0, hi, hz0, hz1, hz2⟩ := info_parts info_blk
  exact run_make_own w w.heap.size 35 34 i0 _ 3 Tryz.underlying35 hi hz0 hz1 .i64 .i64 c (by rw [hz2]; omega) (by unfold maxLen; omega) (Nat.le_refl _)
end Go.Proofs.YtnognphjndpgkaaGreatDoor

/- count's tally.table: the table of what was counted. -/
namespace Go.Proofs.YtnognphjndpgkaaGreatDoor
open Go.RowKit Go.Shelf
set_option linter.unusedSimpArgs false
set_option linter.unusedVariables false

theorem szL_gat {l : List Blk} (h : szL l) : szL (gat l) := fun z hz => by
  rcases gat_keys l [] z hz with ⟨y, hy, e⟩ | ⟨y, hy, _⟩
  · have := h y hy
    rw [← e.1, ← e.2] at this
    exact this
  · simp at hy

/-- An entry of the map, as a block. -/
theorem sides_inv (key : Value) (kl : Lit) (h : keyOf Tryz.prog 70 key = some kl) : ∃ x : ByteArray × ByteArray, key = .agg #[.string x.1, .string x.2] := by
  obtain ⟨a, b, e, _⟩ := keyOf_sides_inv key kl h
  exact ⟨(a, b), e⟩
theorem count_inv (v : Value) (y : DataW Unit × List MemPlace) (h : plainElem Tryz.prog 3 v = some y) : ∃ c : Int, v = .int .i64 c := by
  obtain ⟨c, e, _⟩ := plainElem_int_inv Tryz.underlying3 h
  exact ⟨c, e⟩

set_option maxRecDepth 100000 in
set_option maxHeartbeats 8000000 in
theorem tally_table_any (p m base : Nat) (l : List Blk) (w : World) (hT : Tal w base p m l) (hpos : posN l) (hz : szL l) :
    Calls Tryz.prog 21 #[.pointer (some ⟨p, 0, none⟩)] w fun e w' => ∃ v, e = .returned (.tuple #[v, .int .i64 (if manyB l then 6 else 0)]) ∧ BRuns w' v (if manyB l then [] else gat l) ∧ Below w.heap.size w w' := by
  obtain ⟨_, _, k3, k4, _, tot, hrow, hrest⟩ := hT
  obtain ⟨y0, y1, y2, y3⟩ := cells_at hrow
  clear y3
  cases hmn : manyB l with
  | true =>
    rw [hmn] at y2
    clear hrest hrow hmn
    go_enter Tryz.func21, Tryz.ntmps21
    go_wp2
    go_ret2
    exact ⟨_, rfl, GRuns.nil_ _ _ _, Below.refl _ _⟩
  | false =>
    rw [hmn] at y2
    obtain ⟨_, D, hD, hV⟩ := hrest hmn
    have hlen := (manyB_false hmn).2
    have hzg := szL_gat hz
    have hgp := gat_pos hpos
    obtain ⟨t, ht⟩ : ∃ t, gat l = t := ⟨_, rfl⟩
    have huniq : ∀ (left : Lit → Bool) (cn : Nat) (L d : List Blk), Coll left cn L t → (∀ kl, left kl = false) → d.Perm L → d.Pairwise (fun x y => lessB y x = false) → d = t := fun left cn L d h1 h2 h3 h4 => by
      rw [← ht] at h1 ⊢
      exact coll_gat h1 h2 hpos (fun x hx => by have := hzg x hx; unfold maxLen; omega) h3 h4
    simp only [ht] at hD hV hlen hzg hgp ⊢
    have HU := Lib.hid huniq
    clear huniq hrest hrow hmn ht hpos hz
    obtain ⟨sz, hsz⟩ : ∃ z, Maps.size D = z := ⟨_, rfl⟩
    have hsz1 : sz = t.length := by rw [← hsz]; exact hV.size
    have hszl : sz ≤ 4096 := by omega
    have HSZ := Lib.hid hsz
    have HD := Lib.hid hD; have HV := Lib.hid hV; have HZG := Lib.hid hzg; have HGP := Lib.hid hgp; have HS1 := Lib.hid hsz1
    obtain ⟨wm, hmk, hown0, hgr0⟩ := make_blks w sz (by omega)
    have hbm : Below w.heap.size w wm := (Below.refl _ _).grown hgr0 (Nat.le_refl _) (fun k hk => by cases hk)
    have HOW := Lib.hid hown0; have BM := Lib.hid hbm
    have HDm : Hid (TalMap wm m t.length D) := Lib.hid (HD.out.kept hgr0 (by simp))
    have ym := (hbm.cell (p := ⟨p, 0, none⟩) k4).trans y0
    have hpm : p < wm.heap.size := Nat.lt_of_lt_of_le k4 hbm.size
    clear hsz hD hV hzg hgp hsz1 hown0 hbm hgr0
    go_enter Tryz.func21, Tryz.ntmps21
    go_wp2_with (first
      | (at_len; refine wpList_len_own _ rfl _ 62 rfl 70 3 Tryz.underlying62 _ m _ D rfl HD.out ?_; rw [HSZ.out])
      | (at_range; refine wpList_range_own _ rfl _ 62 rfl 70 3 sides_keyed Tryz.underlying62 _ m _ D rfl HDm.out ?_; intro w0 hrg0 hg0 hs0)
      | go_in)
    go_frame
    obtain ⟨r, hr⟩ : ∃ z, wm.heap.size = z := ⟨_, rfl⟩
    rw [hr] at hrg0 ⊢
    have hb0 : Below w.heap.size w w0 := BM.out.grown hg0 BM.out.size (fun k hk => by cases hk)
    have hc0 := Coll.start HV.out
    have ho0 : w0.ownsRow w.heap.size 34 3 (.slice (some ⟨w.heap.size, 0, none⟩) 0 sz) 0 [] := HOW.out.kept hg0 (.inr (by simp [Value.ownBlock]))
    have hrw : w.heap.size ≤ r := by rw [← hr]; exact BM.out.size
    have HRG0 := Lib.hid hrg0; have B0 := Lib.hid hb0; have HC0 := Lib.hid hc0; have HO0 := Lib.hid ho0
    clear hr hrg0 hg0 hs0 hb0 hc0 ho0 hmk HDm ym hpm HOW BM
    go_loopw [4] (fun s4 wr => ∃ (L : List Blk) (left : Lit → Bool) (cn : Nat), Hid (wr.ranges Tryz.prog 70 (plainElem Tryz.prog 3) m r t.length D left cn) ∧ Hid (wr.ownsRow w.heap.size 34 3 s4 L.length (gCells blkCell L)) ∧ Hid (s4 ≠ .slice none 0 0) ∧ Hid (Coll left cn L t) ∧ Hid (Below w.heap.size w wr)) (fun _ wr => wr.rangeLeft m r)
    case atStart => exact ⟨[], _, _, HRG0, HO0, Lib.hid (by simp), HC0, B0⟩
    case round =>
      obtain ⟨L, left, cn, HRG, HO, HNN, HC, BW⟩ := hrel
      clear HRG0 B0 HC0 HO0
      go_wp2_with (first
        | (at_next; refine wpList_next_ranges _ rfl _ rfl 70 sides_keyed (plainElem Tryz.prog 3) (fun x : ByteArray × ByteArray => .agg #[.string x.1, .string x.2]) (Value.int .i64) sides_inv count_inv m r _ D left cn rfl HRG.out ?_ ?_)
        | go_in)
      · intro _ hl0
        obtain ⟨n, hn⟩ : ∃ z, L.length = z := ⟨_, rfl⟩
        have hC := HC.out
        have hln := hC.len
        rw [hn] at HO hln
        obtain ⟨g, cap, e⟩ : ∃ g cap, u4 = .slice (some ⟨g, 0, none⟩) n cap := by
          rcases HO.out.2 with ⟨e, _⟩ | ⟨g, cap, cur, e, _⟩
          · exact absurd e HNN.out
          · exact ⟨g, cap, e⟩
        subst e
        have cs := Lib.hid (sort_own L n _ w.heap.size wr hn HO.out HNN.out (by omega) BW.out.size)
        have HL0 := Lib.hid hl0; have HN := Lib.hid hn; have HLN := Lib.hid hln
        clear hl0 hn hC hln
        go_wp2_with fail
        refine cs.out.mono ?_
        rintro e w3 ⟨rfl, d, hd1, hd2, hr3, hsh3, b3⟩
        obtain rfl : d = t := HU.out left cn L d HC.out HL0.out hd1 hd2
        have B3 : Hid (Below w.heap.size w w3) := Lib.hid (BW.out.trans b3)
        have hdn : d.length = n := by rw [hd1.length_eq]; exact HN.out
        have cr := Lib.hid (renew_any _ d n w3 hdn hr3 (.inr hsh3) (by have := HLN.out; omega) HZG.out)
        have R3 := Lib.hid hr3
        clear hd1 hd2 hr3 hsh3 b3 hdn
        go_wp2_with fail
        refine cr.out.mono ?_
        rintro e w4 ⟨rfl, b4⟩
        have B4 : Hid (Below w.heap.size w w4) := Lib.hid (B3.out.trans (b4.mono B3.out.size))
        have R4 := Lib.hid (R3.out.below b4)
        clear b4
        go_wp2
        go_ret2
        exact ⟨_, rfl, R4.out, B4.out⟩
      · intro a b c kl yd yp w2 cn2 hkey hlk hv hat hrg2 hlt hg2 hs2 hen
        obtain ⟨a', b', e, ha, hb, rfl⟩ := keyOf_sides_inv _ _ hkey
        obtain ⟨rfl, rfl⟩ : a = a' ∧ b = b' := by simpa using e
        obtain ⟨c', e1, e2, _⟩ := plainElem_int_inv Tryz.underlying3 hv
        obtain rfl : c = c' := by simpa using e1
        obtain ⟨rfl, rfl⟩ : yd = .lit (.int .i64 c) ∧ yp = [] := by simpa using e2
        have hcc : c = cnt t (a, b, 0) := by
          have h1 := hat (.lit (.int .i64 0))
          rw [HV.out.at_ a b ha hb] at h1
          simpa using h1.symm
        have hc1 : 1 ≤ c := by
          obtain ⟨a2, b2, ha2, hb2, e3, h3⟩ := HV.out.has _ (Maps.has_true_of_atKey hat)
          obtain ⟨rfl, rfl⟩ := keyL_inj ha hb ha2 hb2 e3
          rw [hcc]; omega
        have hC2 := HC.out.more (a, b, c) ha hb (by rw [hcc]; rfl) hc1 hlk hlt
        obtain ⟨n, hn⟩ : ∃ z, L.length = z := ⟨_, rfl⟩
        have hln := hC2.len
        simp only [List.length_append, List.length_cons, List.length_nil, hn] at hln
        rw [hn] at HO
        have hmw : m < w.heap.size := HD.out.lt
        have o2 := HO.out.kept hg2 (.inr (fun e => row_ne_iter HO.out HRG.out e.symm))
        have b2 : Below w.heap.size w w2 := BW.out.grown hg2 BW.out.size (fun k hk => by cases hk; exact hrw)
        have o3 := o2.alloc (.cells #[.string a, .string b] 70)
        have b3 := b2.alloc b2.size (.cells #[.string a, .string b] 70)
        have r3 := hrg2.alloc (.cells #[.string a, .string b] 70)
        have hx3 := heap_alloc_new w2 (.cells #[.string a, .string b] 70)
        obtain ⟨w3, hw3⟩ : ∃ z, w2.alloc (.cells #[.string a, .string b] 70) = z := ⟨_, rfl⟩
        rw [hw3] at o3 b3 r3 hx3
        obtain ⟨v', w4, hrun, o4, g4, at4⟩ := append_one (P := Tryz.prog) blk_ln blk_one info_blk rfl (by decide) (by decide) Tryz.underlying35 w3 w.heap.size _ n _ o3 (a, b, c) b3.size (by have := HS1.out; omega)
        have r4 := (r3.alloc (.cells (blkCell (a, b, c)).toArray 34)).kept g4 (row_ne_low o3 hmw) (row_ne_iter o3 r3)
        have b4 : Below w.heap.size w w4 := (b3.alloc b3.size _).grown g4 (by simp; exact Nat.le_succ_of_le b3.size) (fun k hk => (o3.lt k hk).1)
        have hnn4 : v' ≠ .slice none 0 0 := fun e => by
          rcases at4 with h | h
          · rw [e] at h
            rcases o3.2 with ⟨e', _⟩ | ⟨g, cap, cur, e', _⟩
            · exact HNN.out e'
            · rw [e'] at h; simp [Value.ownBlock] at h
          · rw [e] at h; simp [Value.ownBlock] at h
        have hsz3 : w3.heap.size = w2.heap.size + 1 := by rw [← hw3]; simp
        have hrun' : (Builtin.append_ #[35, 35] 35 #[u4, .slice (some ⟨w2.heap.size + 1, 0, none⟩) 1 1]).run Tryz.prog ((w2.alloc (.cells #[.string a, .string b] 70)).alloc (.cells #[.string a, .string b, .int .i64 c] 34)) = .ok v' w4 := by
          rw [← hsz3, hw3]; exact hrun
        have hdn : Hid ((∃ (L : List Blk) (left : Lit → Bool) (cn : Nat), Hid (w4.ranges Tryz.prog 70 (plainElem Tryz.prog 3) m r t.length D left cn) ∧ Hid (w4.ownsRow w.heap.size 34 3 v' L.length (gCells blkCell L)) ∧ Hid (v' ≠ .slice none 0 0) ∧ Hid (Coll left cn L t) ∧ Hid (Below w.heap.size w w4)) ∧ w4.rangeLeft m r < wr.rangeLeft m r) := Lib.hid ⟨⟨L ++ [(a, b, c)], _, _, Lib.hid r4, Lib.hid (by rw [List.length_append, hn, gCells_snoc]; exact o4), Lib.hid hnn4, Lib.hid hC2, Lib.hid b4⟩, by rw [r4.left_eq, HRG.out.left_eq]; exact hlt⟩
        have HRUN := Lib.hid hrun'
        clear hs2 hkey hlk hv hat hrg2 hlt hg2 e e1 e2 hcc hC2 hn hln o2 b2 o3 b3 r3 hx3 hrun o4 g4 at4 r4 b4 hnn4 hw3 HRG HO HNN HC BW hrun' hsz3
        go_wp2_with (first
          | (at_builtin; refine wpList_append_run (.tmp 27) (.tmp 34) 35 _ _ _ _ HRUN.out rfl rfl rfl rfl ?_)
          | go_in)
        exact hdn.out
end Go.Proofs.YtnognphjndpgkaaGreatDoor

/- count.Table: the table of blocks in whatever order. -/
namespace Go.Proofs.YtnognphjndpgkaaGreatDoor
open Go.RowKit Go.Shelf
set_option linter.unusedSimpArgs false
set_option linter.unusedVariables false

theorem tabE_many {l : List Blk} (h : chkAll l = 0) : tabE l = (if manyB l then 6 else 0) ∧ tabS l = (if manyB l then [] else gat l) := by
  have e : tabE l = (if manyB l then 6 else 0) := by
    rw [tabE, if_pos h]
    by_cases hm : 1073741824 < sumN l ∨ 4096 < (gat l).length
    · rw [if_pos hm.symm, if_pos (by simp [manyB, hm])]
    · rw [if_neg (fun h => hm h.symm), if_neg (by simp only [manyB, decide_eq_true_eq]; exact hm)]
  refine ⟨e, ?_⟩
  rw [tabS, e]
  cases manyB l <;> simp
theorem take_snoc {l : List Blk} {k : Nat} {x : Blk} (h : l[k]? = some x) : l.take (k + 1) = l.take k ++ [x] := by rw [List.take_add_one, h]; rfl

end Go.Proofs.YtnognphjndpgkaaGreatDoor

