/- Maps keyed by texts: how frequent a text is; whether a text is there. -/
import Derived.Test.YtdlmjoijadkphaaDoorPk7
import Derived.Maps.OwnSet
import Derived.Maps.RangeWalk
import Derived.StringKeys
import Derived.Sort.MapsRangeIn
namespace Go.Proofs.YtdlmjoijadkphaaDoor
open Go.RowKit Go.Shelf
set_option linter.unusedSimpArgs false
set_option linter.unusedVariables false

theorem str_keyed : Maps.Keyed Tryd.prog 9 := Maps.string_keyed Tryd.underlying9
def keyS (s : ByteArray) : Lit := .string s.data.toList
theorem keyOf_str (s : ByteArray) (h : s.size ≤ maxLen) : keyOf Tryd.prog 9 (.string s) = some (keyS s) := WideMaps.keyOf_string_mk Tryd.underlying9 h
theorem keyS_inj {a b : ByteArray} (h : keyS a = keyS b) : a = b := by
  unfold keyS at h
  injection h with h
  exact key_ext h
theorem keyS_isKey (a : ByteArray) : WideAt.IsKeyLit (keyS a) := trivial
theorem keyOf_str_inv (v : Value) (kl : Lit) (h : keyOf Tryd.prog 9 v = some kl) : ∃ s : ByteArray, v = .string s := by
  exact Maps.keyOf_string_inv Tryd.underlying9 h
theorem keyOf_str_is {s : ByteArray} {kl : Lit} (h : keyOf Tryd.prog 9 (.string s) = some kl) : kl = keyS s := by
  simp [keyOf, Tryd.underlying9, mapKey] at h
  exact h.2.symm
theorem int_elem_inv (v : Value) (y : DataW Unit × List MemPlace) (h : plainElem Tryd.prog 3 v = some y) : ∃ c : Int, v = .int .i64 c := by
  obtain ⟨c, e, _⟩ := plainElem_int_inv Tryd.underlying3 h
  exact ⟨c, e⟩

abbrev FrqMap (w : World) (m n : Nat) (D : DataW Unit) : Prop := w.ownsMap Tryd.prog 9 (plainElem Tryd.prog 3) m n D
theorem insW_len_eq {b : Wrd} {l : List Wrd} (hs : SrtW l) (hp : frB l) : (insW b l).length = if 0 < frq l b.1 then l.length else l.length + 1 := by
  have hnn := frq_nonneg hp b.1
  induction l with
  | nil => rw [insW, frq_nil, if_neg (by omega)]; rfl
  | cons x t ih =>
    have hp' : frB t := fun z hz => hp z (by simp [hz])
    rw [insW]
    split
    · rename_i h1
      have hc : frq (x :: t) b.1 = frq t b.1 := by unfold frq; rw [sumK, if_neg (ltK_not h1).2]; omega
      rw [List.length_cons, ih hs.2 hp' (frq_nonneg hp' _), hc]
      split <;> simp
    · rename_i h1
      split
      · rename_i h2
        have h3 := frq_pos hp (b := x) (by simp)
        rw [← h2, if_pos (by omega)]
        simp
      · rename_i h2
        have hbx : ltK b.1 x.1 = true := ltK_else (by simpa using h1) h2
        have h0 : frq (x :: t) b.1 = 0 := (frq_zero hp).2 (fun z hz => by
          rcases List.mem_cons.1 hz with rfl | hz
          · exact (ltK_not hbx).2.symm
          · exact (ltK_not (ltK_on hbx (hs.1 z hz))).2.symm)
        rw [h0, if_neg (by omega)]
        simp
/-- What the map reads as, over words. -/
structure ViewI (D : DataW Unit) (t : List Wrd) : Prop where
  at_ : ∀ s : ByteArray, D.atKey (keyS s) (.lit (.int .i64 0)) = .lit (.int .i64 (frq t s))
  has : ∀ kl, Maps.has D kl = true → ∃ s : ByteArray, kl = keyS s ∧ 0 < frq t s
  all : ∀ s : ByteArray, 0 < frq t s → Maps.has D (keyS s) = true
  size : Maps.size D = (nrmW t).length
theorem ViewI.none_ : ViewI (.map []) [] where
  at_ s := by rw [frq_nil]; rfl
  has kl h := by simp [Maps.has] at h
  all s h := by rw [frq_nil] at h; omega
  size := rfl
theorem frq_snoc {t : List Wrd} (hp : frB t) (x : Wrd) (hx : 1 ≤ x.2) (s : ByteArray) : frq (t ++ [x]) s = if x.1 = s then min 1073741824 (frq t s + x.2) else frq t s := by
  have := sumK_nonneg hp s
  unfold frq
  rw [sumK_append]
  have e : sumK [x] s = (if x.1 = s then x.2 else 0) + 0 := rfl
  rw [e]
  split <;> omega
/-- One word more. -/
theorem ViewI.put {D : DataW Unit} {t : List Wrd} (h : ViewI D t) (hT : Maps.Tidy D) (hp : frB t) (x : Wrd) (hx : 1 ≤ x.2 ∧ x.2 ≤ 1073741824) :
    ViewI (D.put (keyS x.1) (.lit (.int .i64 (min 1073741824 (frq t x.1 + x.2))))) (t ++ [x]) where
  at_ s := by
    rw [frq_snoc hp x hx.1]
    by_cases e : x.1 = s
    · subst e
      rw [if_pos rfl, Maps.atKey_put_same hT.isMap (keyS_isKey _)]
    · rw [if_neg e, Maps.atKey_put_other (fun e' => e (keyS_inj e').symm), h.at_ s]
  has kl hk := by
    have hn := frq_nonneg hp x.1
    by_cases e : kl = keyS x.1
    · refine ⟨x.1, e, ?_⟩
      rw [frq_snoc hp x hx.1, if_pos rfl]
      omega
    · rw [Maps.has_put_other e] at hk
      obtain ⟨s, e2, hc⟩ := h.has kl hk
      refine ⟨s, e2, ?_⟩
      rw [frq_snoc hp x hx.1]
      split <;> omega
  all s hc := by
    by_cases e : keyS s = keyS x.1
    · rw [e]; exact Maps.has_put_same hT.isMap (keyS_isKey _) _
    · rw [Maps.has_put_other e]
      refine h.all s ?_
      rw [frq_snoc hp x hx.1, if_neg (fun e' => e (by rw [e']))] at hc
      exact hc
  size := by
    rw [nrmW_snoc, insW_len_eq (nrmW_srt hp) (nrmW_frB hp), nrmW_frq hp, Maps.size_put hT, h.size]
    by_cases hc : 0 < frq t x.1
    · rw [if_pos (h.all _ hc), if_pos hc]
    · rw [if_neg hc, if_neg]
      intro hh
      obtain ⟨s, e, hcc⟩ := h.has _ hh
      rw [keyS_inj e] at hc
      exact hc hcc
theorem int_zero9 (w : World) : (zeroValue 3).run Tryd.prog w = .ok (.int .i64 0) w := by kernel_rfl
/-- m[k], as it is run. -/
theorem FrqMap.look {w : World} {mb n : Nat} {D : DataW Unit} {t : List Wrd} (h : FrqMap w mb n D) (hv : ViewI D t) {s : ByteArray} (hs : s.size ≤ maxLen) :
    (Instr.lookup 44 (.map (some mb)) (.string s) false).run Tryd.prog w = .ok (.int .i64 (frq t s)) w := by
  obtain ⟨c, hrun, hat, _⟩ := h.lookup_int (t := 44) str_keyed Tryd.underlying44 Tryd.underlying3 (int_zero9 _) (keyOf_str s hs)
  rw [hv.at_ s] at hat
  obtain rfl : frq t s = c := by simpa using hat
  exact hrun
/-- m[k] = v, as it is run. -/
theorem FrqMap.set {w : World} {mb n : Nat} {D : DataW Unit} {t : List Wrd} (h : FrqMap w mb n D) (hv : ViewI D t) (hn : n ≤ 1000000) (hp : frB t) (x : Wrd) (hx : 1 ≤ x.2 ∧ x.2 ≤ 1073741824) (hs : x.1.size ≤ maxLen) :
    ∃ w' D', (Instr.mapUpdate 44 (.map (some mb)) (.string x.1) (.int .i64 (min 1073741824 (frq t x.1 + x.2)))).run Tryd.prog w = .ok () w' ∧ FrqMap w' mb (n + 1) D' ∧ ViewI D' (t ++ [x]) ∧ w.grownBy w' (some mb) := by
  have h0 := frq_nonneg hp x.1
  have hw : (Lit.int .i64 (min 1073741824 (frq t x.1 + x.2))).wf = true := by
    show (decide _ && decide _) = true
    rw [Bool.and_eq_true, decide_eq_true_eq, decide_eq_true_eq]
    have e1 : IntKind.i64.min = -9223372036854775808 := by decide
    have e2 : IntKind.i64.max = 9223372036854775807 := by decide
    omega
  obtain ⟨w', hrun, h1, h2⟩ := h.update (t := 44) (e := 3) str_keyed Tryd.underlying44 (by unfold maxLen; omega) (keyOf_str x.1 hs) (plainElem_int Tryd.underlying3 hw)
  exact ⟨w', _, hrun, h1, hv.put (h.tidy str_keyed) hp x hx, h2⟩
theorem FrqMap.made (w : World) : FrqMap (w.alloc (.map #[] 0)) w.heap.size 0 (.map []) := World.ownsMap_made w Tryd.prog 9 (plainElem Tryd.prog 3)

abbrev SetMap (w : World) (m n : Nat) (D : DataW Unit) : Prop := w.ownsMap Tryd.prog 9 (plainElem Tryd.prog 4) m n D
/-- What the map reads as: whether a text is there. -/
def ViewS (D : DataW Unit) (l : List Wrd) : Prop := ∀ s : ByteArray, D.atKey (keyS s) (.lit (.bool false)) = .lit (.bool (decide (∃ x ∈ l, x.1 = s)))
theorem ViewS.none_ : ViewS (.map []) [] := fun s => by
  have : decide (∃ x ∈ ([] : List Wrd), x.1 = s) = false := decide_eq_false (by simp)
  rw [this]; rfl
theorem ViewS.put {D : DataW Unit} {l : List Wrd} (h : ViewS D l) (hD : Maps.IsMap D) (x : Wrd) : ViewS (D.put (keyS x.1) (.lit (.bool true))) (l ++ [x]) := by
  intro s
  by_cases e : s = x.1
  · subst e
    rw [Maps.atKey_put_same hD (keyS_isKey _), decide_eq_true ⟨x, by simp, rfl⟩]
  · rw [Maps.atKey_put_other (fun e2 => e (keyS_inj e2)), h s]
    have hi : (∃ y ∈ l, y.1 = s) ↔ ∃ y ∈ l ++ [x], y.1 = s := by
      constructor
      · rintro ⟨y, hy, e'⟩
        exact ⟨y, List.mem_append_left _ hy, e'⟩
      · rintro ⟨y, hy, e'⟩
        rcases List.mem_append.1 hy with hy | hy
        · exact ⟨y, hy, e'⟩
        · obtain rfl : y = x := by simpa using hy
          exact absurd e'.symm e
    rw [decide_eq_decide.2 hi]
theorem bool_zero9 (w : World) : (zeroValue 4).run Tryd.prog w = .ok (.bool false) w := by kernel_rfl
theorem bool_inv9 {P : Program} {t : TypeId} (ht : P.underlying t = some .bool) {v : Value} {z : DataW Unit × List MemPlace} (h : plainElem P t v = some z) : ∃ b, v = .bool b ∧ z.1 = .lit (.bool b) := by
  unfold plainElem at h
  rw [ht] at h
  cases v <;> simp at h
  exact ⟨_, rfl, by rw [← h]⟩
/-- m[k], as it is run. -/
theorem SetMap.look {w : World} {mb n : Nat} {D : DataW Unit} {l : List Wrd} (h : SetMap w mb n D) (hv : ViewS D l) {s : ByteArray} (hs : s.size ≤ maxLen) :
    (Instr.lookup 49 (.map (some mb)) (.string s) false).run Tryd.prog w = .ok (.bool (decide (∃ x ∈ l, x.1 = s))) w := by
  have hat := hv s
  obtain ⟨es, clock, hb, F, _, rfl⟩ := h
  obtain ⟨r, hr⟩ : ∃ r, decide (∃ x ∈ l, x.1 = s) = r := ⟨_, rfl⟩
  rw [hr] at hat ⊢
  rcases Maps.fit_look false str_keyed Tryd.underlying49 (bool_zero9 w) hb F (keyOf_str s hs) with ⟨hrun, _, h2⟩ | ⟨e0, y, _, _, hrun, hRv, h2, _⟩
  · rw [h2] at hat
    rw [hrun]
    have h3 : false = r := by simpa using hat
    rw [← h3]
    rfl
  · rw [h2] at hat
    obtain ⟨b, hb1, hb2⟩ := bool_inv9 Tryd.underlying4 hRv
    rw [hb2] at hat
    have h3 : b = r := by simpa using hat
    rw [hrun, hb1, ← h3]
    rfl
/-- m[k] = true, as it is run. -/
theorem SetMap.set {w : World} {mb n : Nat} {D : DataW Unit} {l : List Wrd} (h : SetMap w mb n D) (hv : ViewS D l) (hn : n ≤ 1000000) (x : Wrd) (hs : x.1.size ≤ maxLen) :
    ∃ w' D', (Instr.mapUpdate 49 (.map (some mb)) (.string x.1) (.bool true)).run Tryd.prog w = .ok () w' ∧ SetMap w' mb (n + 1) D' ∧ ViewS D' (l ++ [x]) ∧ w.grownBy w' (some mb) := by
  obtain ⟨w', hrun, h1, h2⟩ := h.update (t := 49) (e := 4) str_keyed Tryd.underlying49 (by unfold maxLen; omega) (keyOf_str x.1 hs) (plainElem_bool Tryd.underlying4 true)
  exact ⟨w', _, hrun, h1, hv.put h.isMap x, h2⟩
theorem SetMap.made (w : World) : SetMap (w.alloc (.map #[] 0)) w.heap.size 0 (.map []) := World.ownsMap_made w Tryd.prog 9 (plainElem Tryd.prog 4)
end Go.Proofs.YtdlmjoijadkphaaDoor
