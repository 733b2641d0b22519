/- Texts that several proofs of this seat share, one behind the other: DMap GenApp CGatP CRef. -/
import Derived.Test.YtmfmbmlfdlebfaaDoorPk8
import Derived.DeepKeys4
import Derived.Maps.OwnSet
import Derived.Maps.RangeWalk
import Derived.WideKeyEntry
import Derived.BigQuiet
import Derived.Deep.RegionHeld3
/- A map from the two sides of a block to how often it is there: its keys, what it reads as, one block more. -/
namespace Go.Proofs.YtmfmbmlfdlebfaaDoor
open Go.RowKit Go.Shelf
set_option linter.unusedSimpArgs false
set_option linter.unusedVariables false

theorem laidOut6 : laidOutB Tryd.prog = true := by kernel_rfl
theorem sides_law : WideMaps.KeyLaw Tryd.prog 68 := deep_law_laid (P := Tryd.prog) laidOut6 (m := 2) (by decide) (of_decide_eq_true (by kernel_rfl)) (by kernel_rfl) (by kernel_rfl)
theorem sides_keyed : Maps.Keyed Tryd.prog 68 := Maps.Keyed.of_law sides_law

/-- What the two sides read as, as a key. -/
def keyL (a b : ByteArray) : Lit := .string (keyBytes [.string a.data.toList, .string b.data.toList])
theorem klit_str (d : Nat) (s : ByteArray) (h : s.size ≤ maxLen) : Tryd.prog.keyLits (d + 1) 9 [.string s] = some [.string s.data.toList] := by
  simp [Program.keyLits, Tryd.underlying9, h]
theorem klit_str_inv (d : Nat) (v : Value) (ls : List Lit) (h : Tryd.prog.keyLits (d + 1) 9 [v] = some ls) : ∃ s : ByteArray, v = .string s ∧ s.size ≤ maxLen := by
  cases v <;> simp [Program.keyLits, Tryd.underlying9] at h
  exact ⟨_, rfl, h.1⟩
theorem cellsStr : Tryd.prog.cellsOf 9 = 1 := by kernel_rfl
theorem cellsSides : Tryd.prog.cellsOf 68 = 2 := by kernel_rfl
theorem keyTypeSides : Tryd.prog.keyType 68 = true := by kernel_rfl
theorem typesSize : ∃ d, Tryd.prog.types.size + 1 = d + 1 + 1 := ⟨Tryd.prog.types.size - 1, by
  have h : 1 ≤ Tryd.prog.types.size := by
    have : 68 < Tryd.prog.types.size := of_decide_eq_true (by kernel_rfl)
    omega
  omega⟩
theorem klit_sides (d : Nat) (u v : Value) : Tryd.prog.keyLits (d + 1 + 1) 68 [u, v] = (Tryd.prog.keyLits (d + 1) 9 [u]).bind fun x => (Tryd.prog.keyLits (d + 1) 9 [v]).map fun y => x ++ y := by
  conv => lhs; unfold Program.keyLits
  simp only [Tryd.underlying68, cellsSides, cellsStr]
  cases h1 : Tryd.prog.keyLits (d + 1) 9 [u] with
  | none => simp [h1, cellsStr]
  | some x =>
    cases h2 : Tryd.prog.keyLits (d + 1) 9 [v] with
    | none => simp [h1, h2, cellsStr]
    | some y => simp [h1, h2, cellsStr]
theorem keyOf_sides (a b : ByteArray) (ha : a.size ≤ maxLen) (hb : b.size ≤ maxLen) : keyOf Tryd.prog 68 (.agg #[.string a, .string b]) = some (keyL a b) := by
  obtain ⟨d, hd⟩ := typesSize
  unfold keyOf
  rw [Tryd.underlying68]
  simp only [keyTypeSides, Bool.true_and]
  rw [if_pos (by simp [Value.formed, Tryd.underlying68, cellsSides]), hd]
  show Option.map _ (Tryd.prog.keyLits (d + 1 + 1) 68 [.string a, .string b]) = _
  rw [klit_sides, klit_str d a ha, klit_str d b hb]
  rfl
set_option maxRecDepth 100000 in
theorem keyOf_sides_inv (v : Value) (kl : Lit) (h : keyOf Tryd.prog 68 v = some kl) : ∃ a b : ByteArray, v = .agg #[.string a, .string b] ∧ a.size ≤ maxLen ∧ b.size ≤ maxLen ∧ kl = keyL a b := by
  obtain ⟨d, hd⟩ := typesSize
  have h0 := h
  unfold keyOf at h
  rw [Tryd.underlying68] at h
  simp only [keyTypeSides, Bool.true_and] at h
  split at h
  · rename_i hf
    cases v <;> simp [Value.formed, Tryd.underlying68, cellsSides] at hf
    rename_i cs
    obtain ⟨c0, c1, rfl⟩ : ∃ c0 c1, cs = #[c0, c1] := by
      obtain ⟨l⟩ := cs
      match l, hf with
      | [c0, c1], _ => exact ⟨c0, c1, rfl⟩
    rw [hd] at h
    change Option.map _ (Tryd.prog.keyLits (d + 1 + 1) 68 [c0, c1]) = _ at h
    rw [klit_sides] at h
    cases h1 : Tryd.prog.keyLits (d + 1) 9 [c0] with
    | none => rw [h1] at h; simp at h
    | some x =>
      cases h2 : Tryd.prog.keyLits (d + 1) 9 [c1] with
      | none => rw [h1, h2] at h; simp at h
      | some y =>
        obtain ⟨a, rfl, ha⟩ := klit_str_inv d c0 x h1
        obtain ⟨b, rfl, hb⟩ := klit_str_inv d c1 y h2
        refine ⟨a, b, rfl, ha, hb, ?_⟩
        rw [keyOf_sides a b ha hb] at h0
        exact (Option.some.inj h0).symm
  · cases h
theorem keyL_inj {a b c d : ByteArray} (ha : a.size ≤ maxLen) (hb : b.size ≤ maxLen) (hc : c.size ≤ maxLen) (hd : d.size ≤ maxLen) (h : keyL a b = keyL c d) : a = c ∧ b = d := by
  have h1 := keyOf_sides a b ha hb
  rw [h] at h1
  have := sides_keyed.inj h1 (keyOf_sides c d hc hd)
  simpa using this
theorem keyL_isKey (a b : ByteArray) : WideAt.IsKeyLit (keyL a b) := trivial

/-- What the map reads as, over a list of blocks. -/
structure View (D : DataW Unit) (t : List Blk) : Prop where
  at_ : ∀ a b : ByteArray, a.size ≤ maxLen → b.size ≤ maxLen → D.atKey (keyL a b) (.lit (.int .i64 0)) = .lit (.int .i64 (cnt t (a, b, 0)))
  has : ∀ kl, Maps.has D kl = true → ∃ a b : ByteArray, a.size ≤ maxLen ∧ b.size ≤ maxLen ∧ kl = keyL a b ∧ 0 < cnt t (a, b, 0)
  all : ∀ a b : ByteArray, a.size ≤ maxLen → b.size ≤ maxLen → 0 < cnt t (a, b, 0) → Maps.has D (keyL a b) = true
  size : Maps.size D = t.length
theorem View.none_ : View (.map []) [] where
  at_ a b _ _ := by rw [cnt_nil]; rfl
  has kl h := by simp [Maps.has] at h
  all a b _ _ h := by rw [cnt_nil] at h; omega
  size := rfl

theorem ins_len_eq {b : Blk} {l : List Blk} (hs : Srt l) (hp : posN l) : (insB b l).length = if 0 < cnt l b then l.length else l.length + 1 := by
  induction l with
  | nil => simp [insB, cnt_nil]
  | cons x t ih =>
    have hp' : posN t := fun z hz => hp z (by simp [hz])
    rw [insB]
    split
    · rename_i h1
      have hc : cnt (x :: t) b = cnt t b := by rw [cnt_cons, if_neg (less_not h1).2]; omega
      rw [List.length_cons, ih hs.2 hp', hc]
      split <;> simp
    · rename_i h1
      split
      · rename_i h2
        have h3 := cnt_nonneg hp' b
        have h4 := hp x (by simp)
        rw [cnt_cons, if_pos h2, if_pos (by omega)]
        simp
      · rename_i h2
        have hbx : lessB b x = true := by
          rcases less_one x b with ⟨h, _, _⟩ | ⟨_, h, _⟩ | ⟨_, _, h⟩
          · exact absurd h h1
          · exact h
          · exact absurd h h2
        rw [srt_below hs hbx, if_neg (by omega)]
        simp

/-- One block more. -/
theorem View.put {D : DataW Unit} {t : List Blk} (h : View D t) (hT : Maps.Tidy D) (hs : Srt t) (hp : posN t) (x : Blk) (hx1 : x.1.size ≤ maxLen) (hx2 : x.2.1.size ≤ maxLen) (hN : 1 ≤ x.2.2) :
    View (D.put (keyL x.1 x.2.1) (.lit (.int .i64 (cnt t (x.1, x.2.1, 0) + x.2.2)))) (insB x t) where
  at_ a b ha hb := by
    rw [ins_cnt]
    by_cases e : sameS x (a, b, 0)
    · obtain ⟨e1, e2⟩ := e
      simp only at e1 e2
      subst e1 e2
      rw [if_pos ⟨rfl, rfl⟩, Maps.atKey_put_same hT.isMap (keyL_isKey _ _)]
    · rw [if_neg e, Maps.atKey_put_other (fun e' => e (by have := keyL_inj ha hb hx1 hx2 e'; exact ⟨this.1.symm, this.2.symm⟩)), h.at_ a b ha hb]
      simp
  has kl hk := by
    by_cases e : kl = keyL x.1 x.2.1
    · refine ⟨x.1, x.2.1, hx1, hx2, e, ?_⟩
      rw [ins_cnt, if_pos ⟨rfl, rfl⟩]
      have := cnt_nonneg hp (x.1, x.2.1, 0)
      omega
    · rw [Maps.has_put_other e] at hk
      obtain ⟨a, b, ha, hb, e2, hc⟩ := h.has kl hk
      refine ⟨a, b, ha, hb, e2, ?_⟩
      rw [ins_cnt]
      split <;> omega
  all a b ha hb hc := by
    by_cases e : keyL a b = keyL x.1 x.2.1
    · rw [e]; exact Maps.has_put_same hT.isMap (keyL_isKey _ _) _
    · rw [Maps.has_put_other e]
      refine h.all a b ha hb ?_
      rw [ins_cnt, if_neg (fun e' => e (by obtain ⟨e1, e2⟩ := e'; simp only at e1 e2; rw [e1, e2]))] at hc
      omega
  size := by
    have hk : cnt t x = cnt t (x.1, x.2.1, 0) := rfl
    rw [Maps.size_put hT, h.size, ins_len_eq hs hp, hk]
    by_cases hc : 0 < cnt t (x.1, x.2.1, 0)
    · rw [if_pos (h.all _ _ hx1 hx2 hc), if_pos hc]
    · rw [if_neg hc, if_neg]
      intro hh
      obtain ⟨a, b, ha, hb, e, hcc⟩ := h.has _ hh
      obtain ⟨e1, e2⟩ := keyL_inj hx1 hx2 ha hb e
      rw [e1, e2] at hc
      exact hc hcc

/-- Blocks collected out of a map, whichever come first. -/
structure Coll (left : Lit → Bool) (cn : Nat) (L t : List Blk) : Prop where
  each : ∀ x ∈ L, x.1.size ≤ maxLen ∧ x.2.1.size ≤ maxLen ∧ x.2.2 = cnt t x ∧ 1 ≤ x.2.2 ∧ left (keyL x.1 x.2.1) = false
  apart : L.Pairwise (fun x y => ¬ sameS x y)
  rest : ∀ a b : ByteArray, a.size ≤ maxLen → b.size ≤ maxLen → 0 < cnt t (a, b, 0) → left (keyL a b) = true ∨ ∃ x ∈ L, sameS x (a, b, 0)
  len : L.length + cn ≤ t.length
theorem Coll.start {D : DataW Unit} {t : List Blk} (h : View D t) : Coll (Maps.has D) (Maps.size D) [] t where
  each x hx := by simp at hx
  apart := .nil
  rest a b ha hb hc := .inl (h.all a b ha hb hc)
  len := by rw [h.size]; simp
theorem Coll.more {left : Lit → Bool} {cn cn' : Nat} {L t : List Blk} (h : Coll left cn L t) (x : Blk) (h1 : x.1.size ≤ maxLen) (h2 : x.2.1.size ≤ maxLen) (h3 : x.2.2 = cnt t x) (h4 : 1 ≤ x.2.2) (hl : left (keyL x.1 x.2.1) = true) (hc : cn' < cn) :
    Coll (fun z => left z && !z.sameKey (keyL x.1 x.2.1)) cn' (L ++ [x]) t where
  each y hy := by
    rcases List.mem_append.1 hy with hy | hy
    · obtain ⟨k1, k2, k3, k4, k5⟩ := h.each y hy
      exact ⟨k1, k2, k3, k4, by rw [k5]; rfl⟩
    · obtain rfl : y = x := by simpa using hy
      refine ⟨h1, h2, h3, h4, ?_⟩
      have : (keyL y.1 y.2.1).sameKey (keyL y.1 y.2.1) = true := by simp [keyL, Lit.sameKey]
      rw [this]; simp
  apart := by
    refine List.pairwise_append.2 ⟨h.apart, by simp, fun a ha b hb e => ?_⟩
    obtain rfl : b = x := by simpa using hb
    obtain ⟨_, _, _, _, k5⟩ := h.each a ha
    rw [e.1, e.2, hl] at k5
    cases k5
  rest a b ha hb hcn := by
    rcases h.rest a b ha hb hcn with hlt | ⟨y, hy, e⟩
    · by_cases e : keyL a b = keyL x.1 x.2.1
      · obtain ⟨e1, e2⟩ := keyL_inj ha hb h1 h2 e
        exact .inr ⟨x, by simp, e1.symm, e2.symm⟩
      · left
        rw [hlt, Maps.sameKey_ne e]; rfl
    · exact .inr ⟨y, by simp [hy], e⟩
  len := by
    have := h.len
    simp only [List.length_append, List.length_cons, List.length_nil]
    omega
theorem cnt_apart {L : List Blk} (h : L.Pairwise (fun x y => ¬ sameS x y)) : ∀ x ∈ L, cnt L x = x.2.2 := by
  induction L with
  | nil => simp
  | cons a L ih =>
    intro x hx
    have h2 := List.pairwise_cons.1 h
    rw [cnt_cons]
    rcases List.mem_cons.1 hx with rfl | hx
    · rw [if_pos ⟨rfl, rfl⟩, cnt_none (fun b hb e => h2.1 b hb (sameS_symm e))]; omega
    · rw [if_neg (h2.1 x hx), ih h2.2 x hx]; omega
/-- When nothing is left, all is there. -/
theorem Coll.done {left : Lit → Bool} {cn : Nat} {L t : List Blk} (h : Coll left cn L t) (h0 : ∀ kl, left kl = false) (hp : posN t) (hz : ∀ x ∈ t, x.1.size ≤ maxLen ∧ x.2.1.size ≤ maxLen) (k : Blk) : cnt L k = cnt t k := by
  by_cases hx : ∃ x ∈ L, sameS x k
  · obtain ⟨x, hx, e⟩ := hx
    have h1 := cnt_apart h.apart x hx
    have h2 := (h.each x hx).2.2.1
    have e1 : ∀ l : List Blk, cnt l k = cnt l x := fun l => by
      induction l with
      | nil => rfl
      | cons a l ih =>
        rw [cnt_cons, cnt_cons, ih]
        have hi : sameS a k ↔ sameS a x := by unfold sameS; rw [e.1, e.2]
        by_cases h : sameS a k
        · rw [if_pos h, if_pos (hi.1 h)]
        · rw [if_neg h, if_neg (fun h' => h (hi.2 h'))]
    rw [e1, e1, h1, h2]
  · rw [cnt_none (fun b hb e => hx ⟨b, hb, e⟩)]
    by_cases hc : 0 < cnt t k
    · exfalso
      have hm : ∃ y ∈ t, sameS y k := by
        apply Classical.byContradiction
        intro hn
        rw [cnt_none (fun b hb e => hn ⟨b, hb, e⟩)] at hc
        omega
      obtain ⟨y, hy, e⟩ := hm
      have hz1 := hz y hy
      rw [e.1, e.2] at hz1
      rcases h.rest k.1 k.2.1 hz1.1 hz1.2 hc with hl | ⟨x, hx', e'⟩
      · rw [h0] at hl; cases hl
      · exact hx ⟨x, hx', e'⟩
    · have := cnt_nonneg hp k
      omega
theorem cnt_perm {a b : List Blk} (h : a.Perm b) (k : Blk) : cnt a k = cnt b k := by
  induction h with
  | nil => rfl
  | cons x _ ih => rw [cnt_cons, cnt_cons, ih]
  | swap x y l => rw [cnt_cons, cnt_cons, cnt_cons, cnt_cons]; omega
  | trans _ _ h1 h2 => exact h1.trans h2
/-- What was collected, in order. -/
theorem coll_gat {left : Lit → Bool} {cn : Nat} {L d l : List Blk} (h : Coll left cn L (gat l)) (h0 : ∀ kl, left kl = false) (hl : posN l) (hz : ∀ x ∈ gat l, x.1.size ≤ maxLen ∧ x.2.1.size ≤ maxLen) (hd : d.Perm L) (hs : d.Pairwise (fun x y => lessB y x = false)) : d = gat l := by
  have hap : d.Pairwise (fun x y => ¬ sameS x y) := (hd.symm.pairwise_iff (fun {a b} (h : ¬ sameS a b) e => h (sameS_symm e))).1 h.apart
  have hsr : Srt d := by
    clear hd
    induction d with
    | nil => trivial
    | cons a d ih =>
      have h1 := List.pairwise_cons.1 hs
      have h2 := List.pairwise_cons.1 hap
      refine ⟨fun b hb => ?_, ih h1.2 h2.2⟩
      rcases less_one a b with ⟨e, _, _⟩ | ⟨_, e, _⟩ | ⟨_, _, e⟩
      · exact e
      · rw [h1.1 b hb] at e; cases e
      · exact absurd e (h2.1 b hb)
  refine gat_uniq hl hsr (fun b hb => (h.each b (hd.mem_iff.1 hb)).2.2.2.1) (fun k => ?_)
  rw [cnt_perm hd k, h.done h0 (gat_pos hl) hz k, gat_cnt]
end Go.Proofs.YtmfmbmlfdlebfaaDoor

/- append(v, u...) onto a row of the call's own, for rows of any structs. -/
namespace Go.Proofs.YtmfmbmlfdlebfaaDoor
open Go.RowKit

theorem append_many {P : Program} {α : Type} {enc : α → List Value} {k bytes : Nat} {tS tE : TypeId} {z : Value} (hk : ∀ x, (enc x).length = k) (h1 : ∀ x, ∀ u ∈ enc x, u.oneCell' = true) (hinfo : (P.info? tE).map (fun i => (i.zero, i.size, i.bytes)) = some (some z, k, bytes)) (hzl : z.cells.size = k) (hk0 : 0 < bytes) (hk1 : 0 < k)
    (hU : P.underlying tS = some (.slice tE)) (w : World) (base : Nat) (v : Value) (n : Nat) (xs : List Value) (hown : w.ownsRow base tE k v n xs) (u : Value) (ys : List α) (hu : GRuns enc k w u ys) (hbase : base ≤ w.heap.size) (hlen : (n + ys.length) * bytes ≤ 140737488355328) :
    ∃ v' w', (Builtin.append_ #[tS, tS] tS #[v, u]).run P w = .ok v' w' ∧ w'.ownsRow base tE k v' (n + ys.length) (xs ++ gCells enc ys) ∧
      w.grownBy w' v.ownBlock ∧ (v'.ownBlock = v.ownBlock ∨ v'.ownBlock = some w.heap.size) := by
  obtain ⟨i0, hi, hz0, hz1, hz2⟩ := info_parts hinfo
  obtain ⟨A, c, rfl, hxc, ⟨hxm, hc0⟩, hxx⟩ := hu
  cases A with
  | none =>
    obtain rfl := hc0 rfl
    have h0 : ys = [] := List.eq_nil_of_length_eq_zero (by omega)
    subst h0
    exact ⟨v, w, run_append_owned_none (P := P) (w := w) base tS tS tE i0 k hU hi v n xs hown, by simpa [gCells] using hown, World.grownBy.refl w _, .inl rfl⟩
  | some ad =>
    have hcells : ∀ j u, (gCells enc ys)[j]? = some u → w.cell? (ad.add j) = some u := by
      intro j u hj
      have hjl : j < (gCells enc ys).length := (List.getElem?_eq_some_iff.1 hj).1
      rw [gCells_len hk] at hjl
      have hq : j / k < ys.length := (Nat.div_lt_iff_lt_mul hk1).2 hjl
      obtain ⟨b, o, e, _, hc⟩ := hxx (Nat.lt_of_le_of_lt (Nat.zero_le _) hq)
      have e := Option.some.inj e
      subst e
      obtain ⟨x, hx⟩ : ∃ x, ys[j / k]? = some x := ⟨_, List.getElem?_eq_getElem hq⟩
      have h3 := gCells_at hk ys (j / k) (j % k) x hx (Nat.mod_lt _ hk1)
      have hdm : j / k * k + j % k = j := by rw [Nat.mul_comm]; exact Nat.div_add_mod j k
      rw [hdm, hj] at h3
      have h4 := hc (j / k) x hx (j % k) u h3.symm
      have ea : (⟨b, o, none⟩ : Addr).add j = ⟨b, o + j / k * k + j % k, none⟩ := by rw [Nat.add_assoc, hdm]; unfold Addr.add; simp <;> omega
      rw [ea]; exact h4
    have hone : ∀ u ∈ gCells enc ys, u.oneCell' = true := by
      intro u hu
      obtain ⟨p, _, hp⟩ := List.mem_flatMap.1 hu
      exact h1 p u hp
    obtain ⟨v', w', hrun, h2, h3, _, h5⟩ := run_append_own_at (P := P) w base tS tS tE i0 z k bytes hU hi hz0 hz1 hz2 hzl hk1 v n xs hown ad ys.length c (gCells enc ys) (gCells_len hk ys) hcells hone
      (by have : n + ys.length ≤ (n + ys.length) * bytes := Nat.le_mul_of_pos_right _ hk0; unfold maxLen; omega) hlen hbase
    exact ⟨v', w', hrun, h2, h3, h5⟩
end Go.Proofs.YtmfmbmlfdlebfaaDoor

/- A block more among blocks in order, by its place, plain; parts of a slice of blocks. -/
namespace Go.Proofs.YtmfmbmlfdlebfaaDoor
open Go.RowKit Go.Shelf

/-- Where a block comes: behind all that stand ahead of it. -/
theorem ins_at (b : Blk) (out : List Blk) (k : Nat) (h1 : ∀ j y, j < k → out[j]? = some y → lessB y b = true) (h2 : k ≤ out.length) (h3 : ∀ y, out[k]? = some y → lessB y b = false) :
    (∀ x, out[k]? = some x → sameS x b → insB b out = out.set k (x.1, x.2.1, x.2.2 + b.2.2)) ∧ ((∀ x, out[k]? = some x → ¬ sameS x b) → insB b out = out.take k ++ [b] ++ out.drop k) := by
  induction out generalizing k with
  | nil =>
    obtain rfl : k = 0 := by simpa using h2
    refine ⟨fun x hx => by simp at hx, fun _ => by simp [insB]⟩
  | cons a out ih =>
    cases k with
    | zero =>
      have ha := h3 a (by simp)
      have ha' : ¬ lessB a b = true := by rw [ha]; simp
      refine ⟨fun x hx hs => ?_, fun hn => ?_⟩
      · obtain rfl : a = x := by simpa using hx
        rw [insB, if_neg ha', if_pos hs]; rfl
      · rw [insB, if_neg ha', if_neg (hn a (by simp))]; rfl
    | succ k =>
      have ha := h1 0 a (by omega) (by simp)
      obtain ⟨i1, i2⟩ := ih k (fun j y hj hy => h1 (j + 1) y (by omega) (by simpa using hy)) (by simpa using h2) (fun y hy => h3 y (by simpa using hy))
      refine ⟨fun x hx hs => ?_, fun hn => ?_⟩
      · rw [insB, if_pos ha, i1 x (by simpa using hx) hs]; rfl
      · rw [insB, if_pos ha, i2 (fun x hx => hn x (by simpa using hx))]; simp
/-- A cell of a row of blocks turned. -/
theorem gCells_setN (out : List Blk) (k : Nat) (x : Blk) (v : Int) (h : out[k]? = some x) : (gCells blkCell out).set (k * 3 + 2) (.int .i64 v) = gCells blkCell (out.set k (x.1, x.2.1, v)) := by
  induction out generalizing k with
  | nil => simp at h
  | cons a out ih =>
    cases k with
    | zero =>
      obtain rfl : a = x := by simpa using h
      rfl
    | succ k =>
      have := ih k (by simpa using h)
      show (blkCell a ++ gCells blkCell out).set ((k + 1) * 3 + 2) _ = blkCell a ++ gCells blkCell (out.set k _)
      rw [← this, show (k + 1) * 3 + 2 = (k * 3 + 2) + 3 by omega]
      rfl
/-- Parts of a slice. -/
theorem GRuns.front {α : Type} {enc : α → List Value} {k : Nat} {w : World} {A : Option Addr} {n c : Nat} {l : List α} (h : GRuns enc k w (.slice A n c) l) (hn : l.length = n) (m : Nat) (hm : m ≤ n) : GRuns enc k w (.slice A m c) (l.take m) := by
  obtain ⟨A', c', e, hc, hmx, hx⟩ := h
  rw [hn] at e hc hx
  obtain ⟨rfl, _, rfl⟩ := Value.slice.inj e
  have hl : (l.take m).length = m := by rw [List.length_take]; omega
  refine ⟨A, c, by rw [hl], by rw [hl]; omega, hmx, fun h0 => ?_⟩
  rw [hl] at h0
  obtain ⟨b, o, e2, hlt, hcell⟩ := hx (by omega)
  exact ⟨b, o, e2, hlt, fun j x hj i u hu => hcell j x (by rw [List.getElem?_take] at hj; split at hj; exact hj; cases hj) i u hu⟩
theorem GRuns.back {α : Type} {enc : α → List Value} {k : Nat} {w : World} {b o n c : Nat} {l : List α} (h : GRuns enc k w (.slice (some ⟨b, o, none⟩) n c) l) (hn : l.length = n) (m : Nat) (hm : m < n) : GRuns enc k w (.slice (some ⟨b, o + m * k, none⟩) (n - m) (c - m)) (l.drop m) := by
  obtain ⟨A', c', e, hc, ⟨hmx, _⟩, hx⟩ := h
  rw [hn] at e hc hx
  obtain ⟨e1, _, rfl⟩ := Value.slice.inj e
  have hl : (l.drop m).length = n - m := by rw [List.length_drop]; omega
  refine ⟨some ⟨b, o + m * k, none⟩, c - m, by rw [hl], by rw [hl]; omega, ⟨by omega, fun h => by cases h⟩, fun h0 => ?_⟩
  obtain ⟨b', o', e2, hlt, hcell⟩ := hx (by omega)
  have e3 := Option.some.inj (e1.trans e2)
  simp only [Addr.mk.injEq] at e3
  obtain ⟨rfl, rfl, _⟩ := e3
  refine ⟨b, o + m * k, rfl, hlt, fun j x hj i u hu => ?_⟩
  have := hcell (m + j) x (by rwa [List.getElem?_drop] at hj) i u hu
  rwa [show o + (m + j) * k + i = o + m * k + j * k + i by rw [Nat.add_mul]; omega] at this
theorem GRuns.none_ {α : Type} {enc : α → List Value} {k : Nat} {w : World} {A : Option Addr} {c : Nat} (hc : c ≤ maxLen) (hA : A = none → c = 0) : GRuns enc k w (.slice A 0 c) [] := ⟨A, c, rfl, Nat.zero_le _, ⟨hc, hA⟩, fun h => absurd h (by simp)⟩
end Go.Proofs.YtmfmbmlfdlebfaaDoor

/- errataref06.Sum, Check, Total, Find: what each answers. -/
namespace Go.Proofs.YtmfmbmlfdlebfaaDoor
open Go.RowKit Go.Shelf

/-- Blocks whose Ns may be. -/
def okN (l : List Blk) : Prop := ∀ b ∈ l, 1 ≤ b.2.2 ∧ b.2.2 ≤ 1073741824
theorem okN_of {l : List Blk} (h : chkAll l = 0) : okN l := fun b hb => chkS_n (chkAll_zero.1 h b hb)
theorem sumN_take {l : List Blk} (k : Nat) (x : Blk) (h : l[k]? = some x) : sumN (l.take (k + 1)) = sumN (l.take k) + x.2.2 := by
  rw [List.take_add_one, h, sumN_append]; simp [sumN]
theorem sumN_bound {l : List Blk} (h : okN l) (k : Nat) : 0 ≤ sumN (l.take k) ∧ sumN (l.take k) ≤ (k : Int) * 1073741824 := by
  induction k with
  | zero => simp [sumN]
  | succ k ih =>
    cases hx : l[k]? with
    | none => rw [List.take_add_one, hx]; simp; omega
    | some x =>
      have := h x (List.mem_of_getElem? hx)
      rw [sumN_take k x hx]; omega

set_option maxRecDepth 100000 in
set_option maxHeartbeats 4000000 in
theorem refSum_any (u : Value) (l : List Blk) (w : World) (hu : BRuns w u l) (hl : l.length ≤ 1000000) (hok : okN l) :
    Calls Tryd.prog 32 #[u] w fun e w' => e = .returned (.int .i64 (sumN l)) ∧ Below w.heap.size w w' := by
  have hb := sumN_bound hok
  have hfin : sumN l = sumN (l.take l.length) := by rw [List.take_length]
  rw [hfin]
  clear hfin
  obtain ⟨A, c, e⟩ := hu.slice
  subst e
  have HU := Lib.hid hu; clear hu
  obtain ⟨n, hn⟩ : ∃ n, l.length = n := ⟨_, rfl⟩
  rw [hn] at hl HU ⊢
  have HN := Lib.hid hn; clear hn
  obtain ⟨sm, hsm⟩ : ∃ f, f = fun k => sumN (l.take k) := ⟨_, rfl⟩
  have hst : ∀ k x, l[k]? = some x → sm (k + 1) = sm k + x.2.2 := fun k x hx => by rw [hsm]; exact sumN_take k x hx
  have hb' : ∀ k, 0 ≤ sm k ∧ sm k ≤ (k : Int) * 1073741824 := fun k => by rw [hsm]; exact hb k
  have h0 : sm 0 = 0 := by rw [hsm]; simp [sumN]
  have hgo : sumN (l.take n) = sm n := by rw [hsm]
  rw [hgo]
  clear hgo hb hsm
  have ST := Lib.hid hst; have BD := Lib.hid hb'; have OK := Lib.hid hok
  clear hst hb' hok
  go_enter Tryd.func32, Tryd.ntmps32
  go_wp2
  go_loopw [3, 8] (fun s3 s8 wr => ∃ k : Nat, k ≤ n ∧ s8 = .int .i64 k ∧ s3 = .int .i64 (sm k) ∧ Hid (Below w.heap.size w wr)) (fun _ s8 _ => n - (RowKit.intOf s8).toNat)
  case atStart => exact ⟨0, Nat.zero_le _, rfl, by rw [h0], Lib.hid (Below.refl _ _)⟩
  case round =>
    obtain ⟨k, hkn, rfl, rfl, BW⟩ := hrel
    have bk := BD.out k
    by_cases hk : k < n
    · have k1 : (k : Int) < (n : Int) := by omega
      obtain ⟨⟨p1, p2, p3⟩, hp⟩ : ∃ p, l[k]? = some p := ⟨_, List.getElem?_eq_getElem (by rw [HN.out]; exact hk)⟩
      obtain ⟨b, o, rfl, _, hc⟩ := (HU.out.below BW.out).cells HN.out (by omega)
      obtain ⟨g0, g1, g2⟩ := blk_cells hc hp
      simp only at g0 g1 g2
      have hs1 := ST.out k _ hp
      have hN3 := OK.out _ (List.mem_of_getElem? hp)
      simp only at hs1 hN3
      have HS1 := Lib.hid hs1
      have hal : Hid (Below w.heap.size w (wr.alloc (.cells #[.string p1, .string p2, .int .i64 p3] 43))) := Lib.hid (BW.out.alloc BW.out.size _)
      clear hc hp hs1
      go_wp2
      exact ⟨⟨k + 1, by omega, by go_num, by rw [HS1.out], hal⟩, by simp [RowKit.intOf]; omega⟩
    · obtain rfl : k = n := by omega
      go_wp2
      go_ret
      exact ⟨rfl, BW.out⟩

/-- Blocks whose texts aren't too great. -/
def szB (l : List Blk) : Prop := ∀ b ∈ l, b.1.size ≤ 1000000 ∧ b.2.1.size ≤ 1000000
theorem chkAll_take {l : List Blk} (k : Nat) (x : Blk) (h : l[k]? = some x) (h0 : chkAll (l.take k) = 0) : (chkS x = 0 → chkAll (l.take (k + 1)) = 0) ∧ (chkS x ≠ 0 → chkAll l = chkS x) := by
  refine ⟨fun hx => ?_, fun hx => ?_⟩
  · rw [List.take_add_one, h, chkAll_append, if_pos h0]; simp [chkAll, hx]
  · have e : l = l.take k ++ x :: l.drop (k + 1) := by
      have hk := (List.getElem?_eq_some_iff.1 h).1
      have hx2 := (List.getElem?_eq_some_iff.1 h).2
      rw [← hx2, ← List.drop_eq_getElem_cons hk, List.take_append_drop]
    rw [e, chkAll_append, if_pos h0, chkAll, if_neg hx]
/-- A row in order so far, and the next one. -/
theorem ordB_take {l : List Blk} (k : Nat) (y x : Blk) (hy : l[k]? = some y) (hx : l[k + 1]? = some x) (h0 : ordB (l.take (k + 1)) = true) : (lessB y x = true → ordB (l.take (k + 1 + 1)) = true) ∧ (lessB y x = false → ordB l = false) := by
  have h1 : Srt (l.take (k + 1)) := (ordB_srt _).1 h0
  have app : ∀ (a : List Blk) (z : Blk), Srt a → (∀ b ∈ a, lessB b z = true) → Srt (a ++ [z]) := by
    intro a z
    induction a with
    | nil => exact fun _ _ => ⟨fun b hb => by simp at hb, trivial⟩
    | cons c a ih =>
      intro hs hz
      refine ⟨fun b hb => ?_, ih hs.2 (fun b hb => hz b (by simp [hb]))⟩
      rcases List.mem_append.1 hb with hb | hb
      · exact hs.1 b hb
      · obtain rfl : b = z := by simpa using hb
        exact hz c (by simp)
  have last : ∀ (a : List Blk) (z : Blk), Srt (a ++ [z]) → ∀ b ∈ a, lessB b z = true := by
    intro a z
    induction a with
    | nil => intro _ b hb; simp at hb
    | cons c a ih =>
      intro hs b hb
      rcases List.mem_cons.1 hb with rfl | hb
      · exact hs.1 z (by simp)
      · exact ih hs.2 b hb
  have e1 : l.take (k + 1) = l.take k ++ [y] := by rw [List.take_add_one, hy]; rfl
  have e2 : l.take (k + 1 + 1) = l.take (k + 1) ++ [x] := by rw [List.take_add_one, hx]; rfl
  refine ⟨fun h => ?_, fun h => ?_⟩
  · rw [ordB_srt, e2]
    refine app _ _ h1 (fun b hb => ?_)
    rw [e1] at hb h1
    rcases List.mem_append.1 hb with hb | hb
    · exact less_on b y x (last _ _ h1 b hb) h
    · obtain rfl : b = y := by simpa using hb
      exact h
  · cases ho : ordB l with
    | false => rfl
    | true =>
      exfalso
      have hs : Srt l := (ordB_srt l).1 ho
      have pre : ∀ (a c : List Blk), Srt (a ++ c) → Srt a := by
        intro a
        induction a with
        | nil => exact fun _ _ => trivial
        | cons d a ih => exact fun c hs => ⟨fun b hb => hs.1 b (by simp [hb]), ih c hs.2⟩
      have h2 : Srt (l.take (k + 1 + 1)) := pre _ (l.drop (k + 1 + 1)) (by rw [List.take_append_drop]; exact hs)
      rw [e2, e1] at h2
      have := last _ _ h2 y (by simp)
      rw [h] at this; cases this
theorem ordB_one (l : List Blk) : ordB (l.take 1) = true := by
  cases l with
  | nil => rfl
  | cons a l => rfl

/-- What a region with a call that makes memory keeps: two blocks of a row, all that is old. -/
structure KRow (w : World) (b p q : Nat) (y x : Blk) (w' : World) : Prop where
  a0 : w'.cell? ⟨b, p, none⟩ = some (.string y.1)
  a1 : w'.cell? ⟨b, p + 1, none⟩ = some (.string y.2.1)
  a2 : w'.cell? ⟨b, p + 2, none⟩ = some (.int .i64 y.2.2)
  b0 : w'.cell? ⟨b, q, none⟩ = some (.string x.1)
  b1 : w'.cell? ⟨b, q + 1, none⟩ = some (.string x.2.1)
  b2 : w'.cell? ⟨b, q + 2, none⟩ = some (.int .i64 x.2.2)
  lt : b < w'.heap.size
  bel : Below w.heap.size w w'
theorem KRow.step {w : World} {b p q : Nat} {y x : Blk} {w' w'' : World} (h : KRow w b p q y x w') (hb : Below w'.heap.size w' w'') : KRow w b p q y x w'' :=
  ⟨(hb.cell (p := ⟨b, _, none⟩) h.lt).trans h.a0, (hb.cell (p := ⟨b, _, none⟩) h.lt).trans h.a1, (hb.cell (p := ⟨b, _, none⟩) h.lt).trans h.a2, (hb.cell (p := ⟨b, _, none⟩) h.lt).trans h.b0, (hb.cell (p := ⟨b, _, none⟩) h.lt).trans h.b1, (hb.cell (p := ⟨b, _, none⟩) h.lt).trans h.b2, Nat.lt_of_lt_of_le h.lt hb.size, h.bel.trans (hb.mono h.bel.size)⟩

set_option maxRecDepth 100000 in
set_option maxHeartbeats 8000000 in
theorem refCheck6_any (u : Value) (l : List Blk) (w : World) (hu : BRuns w u l) (hl : l.length ≤ 1000000) (hz : szB l) :
    Calls Tryd.prog 20 #[u] w fun e w' => e = .returned (.int .i64 (chkT l)) ∧ Below w.heap.size w w' := by
  obtain ⟨A, c, e⟩ := hu.slice
  subst e
  have HU := Lib.hid hu; clear hu
  obtain ⟨n, hn⟩ : ∃ n, l.length = n := ⟨_, rfl⟩
  have hT : chkT l = if chkAll l = 0 then (if ordB l then (if 4096 < n ∨ 1073741824 < sumN l then 6 else 0) else 7) else chkAll l := by rw [chkT, hn]
  obtain ⟨res, hres⟩ : ∃ r, chkT l = r := ⟨_, rfl⟩
  rw [hres] at hT ⊢
  have HT := Lib.hid hT; clear hT hres
  rw [hn] at hl HU ⊢
  have HN := Lib.hid hn; clear hn
  have HZ := Lib.hid hz; clear hz
  have C5 := Lib.hid refCheck5_any
  have CL := Lib.hid refLess_any
  go_enter Tryd.func20, Tryd.ntmps20
  go_wp2
  go_loopw [12] (fun s12 wr => ∃ k : Nat, k ≤ n ∧ s12 = .int .i64 k ∧ Hid (chkAll (l.take k) = 0) ∧ Hid (Below w.heap.size w wr)) (fun s12 _ => n - (RowKit.intOf s12).toNat)
  case atStart => exact ⟨0, Nat.zero_le _, rfl, Lib.hid rfl, Lib.hid (Below.refl _ _)⟩
  case round =>
    obtain ⟨k, hkn, rfl, HC, BW⟩ := hrel
    by_cases hk : k < n
    · have k1 : (k : Int) < (n : Int) := by omega
      obtain ⟨⟨p1, p2, p3⟩, hp⟩ : ∃ p, l[k]? = some p := ⟨_, List.getElem?_eq_getElem (by rw [HN.out]; exact hk)⟩
      obtain ⟨b, o, rfl, _, hc⟩ := (HU.out.below BW.out).cells HN.out (by omega)
      obtain ⟨g0, g1, g2⟩ := blk_cells hc hp
      simp only at g0 g1 g2
      have hz1 := HZ.out _ (List.mem_of_getElem? hp)
      have hch := chkAll_take k _ hp HC.out
      simp only at hz1
      obtain ⟨er, her⟩ : ∃ z, chkS (p1, p2, p3) = z := ⟨_, rfl⟩
      rw [her] at hch
      have HCH := Lib.hid hch
      have hal : Hid (Below w.heap.size w (wr.alloc (.cells #[.string p1, .string p2, .int .i64 p3] 43))) := Lib.hid (BW.out.alloc BW.out.size _)
      have c5 := C5.out p1 p2 p3 (wr.alloc (.cells #[.string p1, .string p2, .int .i64 p3] 43)) (by omega) (by omega)
      rw [her] at c5
      have CC := Lib.hid c5
      clear hc hp hch c5 her
      go_wp2_with fail
      refine CC.out.mono ?_
      rintro e w5 ⟨rfl, b5⟩
      have B5 : Hid (Below w.heap.size w w5) := Lib.hid (hal.out.trans (b5.mono hal.out.size))
      clear b5
      by_cases h0 : er = 0
      · subst h0
        go_wp2
        exact ⟨⟨k + 1, by omega, by go_num, Lib.hid (HCH.out.1 (by first | rfl | trivial)), B5⟩, by simp [RowKit.intOf]; omega⟩
      · have h0' : (er == 0) = false := by simpa using h0
        have hr : Hid (res = er) := Lib.hid (by rw [HT.out, if_neg (by rw [HCH.out.2 h0]; exact h0), HCH.out.2 h0])
        go_wp2
        go_ret
        exact ⟨by rw [hr.out]; rfl, B5.out⟩
    · obtain rfl : k = n := by omega
      have HC0 : Hid (chkAll l = 0) := Lib.hid (by have := HC.out; rwa [← HN.out, List.take_length] at this)
      clear HC
      obtain ⟨w2, hw2⟩ : ∃ z, wr = z := ⟨_, rfl⟩
      subst hw2
      go_wp2
      go_loopw [24] (fun s24 wr' => ∃ j : Nat, j ≤ k ∧ s24 = .int .i64 j ∧ Hid (ordB (l.take j) = true) ∧ Hid (Below w.heap.size w wr')) (fun s24 _ => k - (RowKit.intOf s24).toNat)
      case atStart => exact ⟨0, Nat.zero_le _, rfl, Lib.hid rfl, BW⟩
      case round =>
        obtain ⟨j, hjk, rfl, HO, BW2⟩ := hrel
        by_cases hj : j < k
        · have j1 : (j : Int) < (k : Int) := by omega
          rcases Nat.eq_zero_or_pos j with h0 | h0
          · subst h0
            go_wp2
            go_quiet (fail)
            go_wp2
            exact ⟨⟨1, by omega, by go_num, Lib.hid (ordB_one l), Lib.hid (below_draws BW2.out _)⟩, by simp [RowKit.intOf]; omega⟩
          · obtain ⟨i, hi⟩ : ∃ i : Nat, (j : Int) - 1 = (i : Int) := ⟨j - 1, by omega⟩
            have ei : j = i + 1 := by omega
            have EI := Lib.hid ei
            obtain ⟨⟨y1, y2, y3⟩, hy⟩ : ∃ p, l[i]? = some p := ⟨_, List.getElem?_eq_getElem (by rw [HN.out]; omega)⟩
            obtain ⟨⟨x1, x2, x3⟩, hx⟩ : ∃ p, l[j]? = some p := ⟨_, List.getElem?_eq_getElem (by rw [HN.out]; omega)⟩
            have RW := Lib.hid (HU.out.below BW2.out)
            obtain ⟨b, o, rfl, hblt, hc⟩ := RW.out.cells HN.out (by omega)
            obtain ⟨g0, g1, g2⟩ := blk_cells hc hy
            obtain ⟨g3, g4, g5⟩ := blk_cells hc hx
            simp only at g0 g1 g2 g3 g4 g5
            have hor := ordB_take i (y1, y2, y3) (x1, x2, x3) hy (by rw [← ei]; exact hx) (by rw [← ei]; exact HO.out)
            have c5 := fun w => CL.out y1 y2 x1 x2 y3 x3 w
            obtain ⟨le, hle⟩ : ∃ z, lessB (y1, y2, y3) (x1, x2, x3) = z := ⟨_, rfl⟩
            simp only [hle] at c5 hor
            have HOR := Lib.hid hor; have C := Lib.hid c5
            clear hc hy hx hor c5 hle ei HO
            have i0 : (0 : Int) < (j : Int) := by omega
            have i1 : (i : Int) < (k : Int) := by omega
            have hwr : IntKind.i64.wrap ((j : Int) - 1) = (i : Int) := by rw [IntKind.wrap_i64]; omega
            have hwi : IntKind.i64.wrap (i : Int) = (i : Int) := by rw [IntKind.wrap_i64]; omega
            have i2 : (0 : Int) ≤ (i : Int) := by omega
            have KD : Hid (KRow w b (o + i * 3) (o + j * 3) (y1, y2, y3) (x1, x2, x3) wr.drew) := Lib.hid ⟨g0, g1, g2, g3, g4, g5, hblt, BW2.out.drew⟩
            go_wp2
            go_region_held3 (fun w' => w'.cell? ⟨b, o + i * 3, none⟩ = some (.string y1) ∧ w'.cell? ⟨b, o + i * 3 + 1, none⟩ = some (.string y2) ∧ w'.cell? ⟨b, o + i * 3 + 2, none⟩ = some (.int .i64 y3) ∧ w'.cell? ⟨b, o + j * 3, none⟩ = some (.string x1) ∧ w'.cell? ⟨b, o + j * 3 + 1, none⟩ = some (.string x2) ∧ w'.cell? ⟨b, o + j * 3 + 2, none⟩ = some (.int .i64 x3) ∧ Hid (KRow w b (o + i * 3) (o + j * 3) (y1, y2, y3) (x1, x2, x3) w'))
              (first | exact ⟨g0, g1, g2, g3, g4, g5, KD⟩ | exact ⟨HKn.out.a0, HKn.out.a1, HKn.out.a2, HKn.out.b0, HKn.out.b1, HKn.out.b2, HKn⟩ | go_keep)
              (first
                | (go_at_call 37; refine (C.out _).mono ?_; rintro e w4 ⟨rfl, hb4⟩; have HKn := Lib.hid ((by assumption : Hid (KRow w b (o + i * 3) (o + j * 3) (y1, y2, y3) (x1, x2, x3) _)).out.step hb4); clear hb4))
            rename_i hHeld
            clear hHeld
            have B4 : Hid (Below w.heap.size w w4) := Lib.hid HKn.out.bel
            cases le
            · have hr : Hid (res = 7) := Lib.hid (by rw [HT.out, if_pos HC0.out, if_neg (by rw [HOR.out.2 rfl]; simp)])
              go_wp2
              go_ret
              exact ⟨by rw [hr.out]; rfl, B4.out⟩
            · go_wp2
              exact ⟨⟨j + 1, by omega, by go_num, Lib.hid (by have := HOR.out.1 rfl; rwa [← EI.out] at this), B4⟩, by simp [RowKit.intOf]; omega⟩
        · obtain rfl : j = k := by omega
          have HO0 : Hid (ordB l = true) := Lib.hid (by have := HO.out; rwa [← HN.out, List.take_length] at this)
          clear HO BW
          by_cases hbig : 4096 < j
          · have hb1 : (4096 : Int) < (j : Int) := by omega
            have hr : Hid (res = 6) := Lib.hid (by rw [HT.out, if_pos HC0.out, if_pos HO0.out, if_pos (.inl hbig)])
            go_wp2
            go_ret
            exact ⟨by rw [hr.out]; rfl, BW2.out⟩
          · have hb1 : ¬ (4096 : Int) < (j : Int) := by omega
            have hok := okN_of HC0.out
            have hbd := sumN_bound hok
            obtain ⟨sm, hsm⟩ : ∃ f, f = fun k => sumN (l.take k) := ⟨_, rfl⟩
            have hst : ∀ k x, l[k]? = some x → sm (k + 1) = sm k + x.2.2 := fun k x hx => by rw [hsm]; exact sumN_take k x hx
            have hb' : ∀ k, 0 ≤ sm k ∧ sm k ≤ (k : Int) * 1073741824 := fun k => by rw [hsm]; exact hbd k
            have h0 : sm 0 = 0 := by rw [hsm]; simp [sumN]
            have hfin : Hid (sumN l = sm j) := Lib.hid (by rw [hsm, ← HN.out]; simp)
            clear hbd hsm
            have ST := Lib.hid hst; have BD := Lib.hid hb'; have OK := Lib.hid hok
            clear hst hb' hok
            go_wp2
            go_loopw [3, 48] (fun s3 s48 wr' => ∃ k : Nat, k ≤ j ∧ s48 = .int .i64 k ∧ s3 = .int .i64 (sm k) ∧ Hid (Below w.heap.size w wr')) (fun _ s48 _ => j - (RowKit.intOf s48).toNat)
            case atStart => exact ⟨0, Nat.zero_le _, rfl, by rw [h0], BW2⟩
            case round =>
              obtain ⟨k, hkn, rfl, rfl, BW3⟩ := hrel
              have bk := BD.out k
              by_cases hk : k < j
              · have k1 : (k : Int) < (j : Int) := by omega
                obtain ⟨⟨p1, p2, p3⟩, hp⟩ : ∃ p, l[k]? = some p := ⟨_, List.getElem?_eq_getElem (by rw [HN.out]; exact hk)⟩
                obtain ⟨b, o, rfl, _, hc⟩ := (HU.out.below BW3.out).cells HN.out (by omega)
                obtain ⟨g0, g1, g2⟩ := blk_cells hc hp
                simp only at g0 g1 g2
                have hs1 := ST.out k _ hp
                have hN3 := OK.out _ (List.mem_of_getElem? hp)
                simp only at hs1 hN3
                have HS1 := Lib.hid hs1
                have hal : Hid (Below w.heap.size w (wr.alloc (.cells #[.string p1, .string p2, .int .i64 p3] 43))) := Lib.hid (BW3.out.alloc BW3.out.size _)
                clear hc hp hs1
                go_wp2
                exact ⟨⟨k + 1, by omega, by go_num, by rw [HS1.out], hal⟩, by simp [RowKit.intOf]; omega⟩
              · obtain rfl : k = j := by omega
                by_cases hsum : 1073741824 < sm k
                · have hr : Hid (res = 6) := Lib.hid (by rw [HT.out, if_pos HC0.out, if_pos HO0.out, if_pos (.inr (by rw [hfin.out]; exact hsum))])
                  go_wp2
                  go_ret
                  exact ⟨by rw [hr.out]; rfl, BW3.out⟩
                · have hr : Hid (res = 0) := Lib.hid (by rw [HT.out, if_pos HC0.out, if_pos HO0.out, if_neg (by rw [hfin.out]; omega)])
                  go_wp2
                  go_ret
                  exact ⟨by rw [hr.out]; rfl, BW3.out⟩
end Go.Proofs.YtmfmbmlfdlebfaaDoor

