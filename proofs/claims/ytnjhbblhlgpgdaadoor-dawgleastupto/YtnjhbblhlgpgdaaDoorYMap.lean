/- Maps keyed by texts: how frequent a text is; whether a text is there. -/
import Derived.Test.YtnjhbblhlgpgdaaDoorPk6
import Derived.Maps.OwnSet
import Derived.Maps.RangeWalk
import Derived.StringKeys
import Derived.Sort.MapsRangeIn
namespace Go.Proofs.YtnjhbblhlgpgdaaDoor
open Go.RowKit Go.Shelf
set_option linter.unusedSimpArgs false
set_option linter.unusedVariables false

theorem str_keyed : Maps.Keyed Tryd.prog 9 := Maps.string_keyed Tryd.underlying9
def keyS (s : ByteArray) : Lit := .string s.data.toList
theorem keyOf_str (s : ByteArray) (h : s.size ≤ maxLen) : keyOf Tryd.prog 9 (.string s) = some (keyS s) := WideMaps.keyOf_string_mk Tryd.underlying9 h
theorem keyS_inj {a b : ByteArray} (h : keyS a = keyS b) : a = b := by
  unfold keyS at h
  injection h with h
  exact key_ext h
theorem keyS_isKey (a : ByteArray) : WideAt.IsKeyLit (keyS a) := trivial
theorem keyOf_str_inv (v : Value) (kl : Lit) (h : keyOf Tryd.prog 9 v = some kl) : ∃ s : ByteArray, v = .string s := by
  exact Maps.keyOf_string_inv Tryd.underlying9 h
theorem keyOf_str_is {s : ByteArray} {kl : Lit} (h : keyOf Tryd.prog 9 (.string s) = some kl) : kl = keyS s := by
  simp [keyOf, Tryd.underlying9, mapKey] at h
  exact h.2.symm
theorem int_elem_inv (v : Value) (y : DataW Unit × List MemPlace) (h : plainElem Tryd.prog 3 v = some y) : ∃ c : Int, v = .int .i64 c := by
  obtain ⟨c, e, _⟩ := plainElem_int_inv Tryd.underlying3 h
  exact ⟨c, e⟩

abbrev FrqMap (w : World) (m n : Nat) (D : DataW Unit) : Prop := w.ownsMap Tryd.prog 9 (plainElem Tryd.prog 3) m n D
theorem insW_len_eq {b : Wrd} {l : List Wrd} (hs : SrtW l) (hp : frB l) : (insW b l).length = if 0 < frq l b.1 then l.length else l.length + 1 := by
  have hnn := frq_nonneg hp b.1
  induction l with
  | nil => rw [insW, frq_nil, if_neg (by omega)]; rfl
  | cons x t ih =>
    have hp' : frB t := fun z hz => hp z (by simp [hz])
    rw [insW]
    split
    · rename_i h1
      have hc : frq (x :: t) b.1 = frq t b.1 := by unfold frq; rw [sumK, if_neg (ltK_not h1).2]; omega
      rw [List.length_cons, ih hs.2 hp' (frq_nonneg hp' _), hc]
      split <;> simp
    · rename_i h1
      split
      · rename_i h2
        have h3 := frq_pos hp (b := x) (by simp)
        rw [← h2, if_pos (by omega)]
        simp
      · rename_i h2
        have hbx : ltK b.1 x.1 = true := ltK_else (by simpa using h1) h2
        have h0 : frq (x :: t) b.1 = 0 := (frq_zero hp).2 (fun z hz => by
          rcases List.mem_cons.1 hz with rfl | hz
          · exact (ltK_not hbx).2.symm
          · exact (ltK_not (ltK_on hbx (hs.1 z hz))).2.symm)
        rw [h0, if_neg (by omega)]
        simp
/-- What the map reads as, over words. -/
structure ViewI (D : DataW Unit) (t : List Wrd) : Prop where
  at_ : ∀ s : ByteArray, D.atKey (keyS s) (.lit (.int .i64 0)) = .lit (.int .i64 (frq t s))
  has : ∀ kl, Maps.has D kl = true → ∃ s : ByteArray, kl = keyS s ∧ 0 < frq t s
  all : ∀ s : ByteArray, 0 < frq t s → Maps.has D (keyS s) = true
  size : Maps.size D = (nrmW t).length
theorem ViewI.none_ : ViewI (.map []) [] where
  at_ s := by rw [frq_nil]; rfl
  has kl h := by simp [Maps.has] at h
  all s h := by rw [frq_nil] at h; omega
  size := rfl
theorem frq_snoc {t : List Wrd} (hp : frB t) (x : Wrd) (hx : 1 ≤ x.2) (s : ByteArray) : frq (t ++ [x]) s = if x.1 = s then min 1073741824 (frq t s + x.2) else frq t s := by
  have := sumK_nonneg hp s
  unfold frq
  rw [sumK_append]
  have e : sumK [x] s = (if x.1 = s then x.2 else 0) + 0 := rfl
  rw [e]
  split <;> omega
/-- One word more. -/
theorem ViewI.put {D : DataW Unit} {t : List Wrd} (h : ViewI D t) (hT : Maps.Tidy D) (hp : frB t) (x : Wrd) (hx : 1 ≤ x.2 ∧ x.2 ≤ 1073741824) :
    ViewI (D.put (keyS x.1) (.lit (.int .i64 (min 1073741824 (frq t x.1 + x.2))))) (t ++ [x]) where
  at_ s := by
    rw [frq_snoc hp x hx.1]
    by_cases e : x.1 = s
    · subst e
      rw [if_pos rfl, Maps.atKey_put_same hT.isMap (keyS_isKey _)]
    · rw [if_neg e, Maps.atKey_put_other (fun e' => e (keyS_inj e').symm), h.at_ s]
  has kl hk := by
    have hn := frq_nonneg hp x.1
    by_cases e : kl = keyS x.1
    · refine ⟨x.1, e, ?_⟩
      rw [frq_snoc hp x hx.1, if_pos rfl]
      omega
    · rw [Maps.has_put_other e] at hk
      obtain ⟨s, e2, hc⟩ := h.has kl hk
      refine ⟨s, e2, ?_⟩
      rw [frq_snoc hp x hx.1]
      split <;> omega
  all s hc := by
    by_cases e : keyS s = keyS x.1
    · rw [e]; exact Maps.has_put_same hT.isMap (keyS_isKey _) _
    · rw [Maps.has_put_other e]
      refine h.all s ?_
      rw [frq_snoc hp x hx.1, if_neg (fun e' => e (by rw [e']))] at hc
      exact hc
  size := by
    rw [nrmW_snoc, insW_len_eq (nrmW_srt hp) (nrmW_frB hp), nrmW_frq hp, Maps.size_put hT, h.size]
    by_cases hc : 0 < frq t x.1
    · rw [if_pos (h.all _ hc), if_pos hc]
    · rw [if_neg hc, if_neg]
      intro hh
      obtain ⟨s, e, hcc⟩ := h.has _ hh
      rw [keyS_inj e] at hc
      exact hc hcc
theorem int_zero9 (w : World) : (zeroValue 3).run Tryd.prog w = .ok (.int .i64 0) w := by kernel_rfl
theorem FrqMap.made (w : World) : FrqMap (w.alloc (.map #[] 0)) w.heap.size 0 (.map []) := World.ownsMap_made w Tryd.prog 9 (plainElem Tryd.prog 3)

end Go.Proofs.YtnjhbblhlgpgdaaDoor
