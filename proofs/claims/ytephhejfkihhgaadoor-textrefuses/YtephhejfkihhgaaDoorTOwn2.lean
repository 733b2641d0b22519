/- Rows of pieces of the call's own: appended to, written; what Join and Check refuse. -/
import Derived.Test.YtephhejfkihhgaaDoorTOwn
namespace Go.Proofs.YtephhejfkihhgaaDoor
open Go.RowKit Go.Shelf

/-- append(v, u...) of a row of pieces of the call's own and a list of pieces. -/
theorem append_spans (w : World) (base : Nat) (v : Value) (n : Nat) (xs : List Value) (hown : w.ownsRow base 43 3 v n xs) (u : Value) (ys : List Sp) (hu : SRuns w u ys) (hbase : base ≤ w.heap.size) (hlen : (n + ys.length) * 24 ≤ 140737488355328) :
    ∃ v' w', (Builtin.append_ #[23, 23] 23 #[v, u]).run Tryd.prog w = .ok v' w' ∧ w'.ownsRow base 43 3 v' (n + ys.length) (xs ++ spCs ys) ∧ w.grownBy w' v.ownBlock ∧ (v'.ownBlock = v.ownBlock ∨ v'.ownBlock = some w.heap.size) := by
  obtain ⟨i0, hi, hz0, hz1, hz2⟩ := info_parts info_sp
  obtain ⟨A, c, rfl, hxc, ⟨hxm, hc0⟩, hxx⟩ := hu
  cases A with
  | none =>
    obtain rfl := hc0 rfl
    have h0 : ys = [] := List.eq_nil_of_length_eq_zero (by omega)
    subst h0
    exact ⟨v, w, run_append_owned_none (P := Tryd.prog) (w := w) base 23 23 43 i0 3 Tryd.underlying23 hi v n xs hown, by simpa [spCs] using hown, World.grownBy.refl w _, .inl rfl⟩
  | some ad =>
    have hcells : ∀ j u, (spCs ys)[j]? = some u → w.cell? (ad.add j) = some u := by
      intro j u hj
      have hjl : j < (spCs ys).length := (List.getElem?_eq_some_iff.1 hj).1
      rw [spCs_len] at hjl
      obtain ⟨b, o, e, _, hc⟩ := hxx (by omega)
      injection e with e
      subst e
      have hq : j / 3 < ys.length := by omega
      have h3 := spCs_at ys (j / 3) (j % 3) hq (Nat.mod_lt _ (by decide))
      rw [show j / 3 * 3 + j % 3 = j by omega, hj] at h3
      obtain ⟨c0, c1, c2⟩ := hc (j / 3) hq
      rw [addr_add]
      have hm : j % 3 = 0 ∨ j % 3 = 1 ∨ j % 3 = 2 := by omega
      rcases hm with hm | hm | hm
      · rw [hm] at h3
        rw [show o + j = o + j / 3 * 3 by omega, c0]; exact h3.symm
      · rw [hm] at h3
        rw [show o + j = o + j / 3 * 3 + 1 by omega, c1]; exact h3.symm
      · rw [hm] at h3
        rw [show o + j = o + j / 3 * 3 + 2 by omega, c2]; exact h3.symm
    have hone : ∀ u ∈ spCs ys, u.oneCell' = true := by
      intro u hu
      obtain ⟨p, _, hp⟩ := List.mem_flatMap.1 hu
      exact sp_one p u hp
    obtain ⟨v', w', hrun, h2, h3, _, h5⟩ := run_append_own_at (P := Tryd.prog) w base 23 23 43 i0 _ 3 24 Tryd.underlying23 hi hz0 hz1 hz2 rfl (by decide) v n xs hown ad ys.length c (spCs ys) (by rw [spCs_len]) hcells hone (by unfold maxLen; omega) hlen hbase
    exact ⟨v', w', hrun, h2, h3, h5⟩
theorem own_litS (w : World) : (w.alloc (.cells #[] 43)).ownsRow w.heap.size 43 3 (.slice (some ⟨w.heap.size, 0, none⟩) 0 0) 0 [] :=
  ⟨by simp, .inr ⟨w.heap.size, 0, #[], rfl, Nat.le_refl _, heap_alloc_new w _, Nat.le_refl _, by simp [maxLen], by simp, by simp⟩⟩
/-- One cell of a piece, written. -/
theorem spCs_set (l : List Sp) (k i : Nat) (p : Sp) (u : Value) (hk : k < l.length) (hi : i < 3) (hp : (spC (l.getD k sp0)).set i u = spC p) : (spCs l).set (k * 3 + i) u = spCs (l.set k p) := by
  induction l generalizing k with
  | nil => simp at hk
  | cons q l ih =>
    cases k with
    | zero =>
      show (spC q ++ spCs l).set (0 * 3 + i) u = spC p ++ spCs l
      rw [List.set_append_left _ _ (by simp [spC]; omega)]
      have hp' : (spC q).set i u = spC p := hp
      rw [Nat.zero_mul, Nat.zero_add, hp']
    | succ k =>
      show (spC q ++ spCs l).set ((k + 1) * 3 + i) u = spC q ++ spCs (l.set k p)
      rw [List.set_append_right _ _ (by simp [spC]; omega)]
      have := ih k (by simpa using hk) hp
      rw [show (k + 1) * 3 + i - (spC q).length = k * 3 + i by simp [spC]; omega, this]

/-- Join and Check refuse what is no document's pieces, and too many texts. -/
def FormAt (s : ByteArray) (m : List Sp) : Prop := (∀ w u v, Okw w → SRuns w u m → Calls Tryd.prog 17 #[.string s, u, v] w fun e w' => e = .returned (.tuple #[.string ⟨#[]⟩, .int .i64 7]) ∧ Below w.heap.size w w') ∧
  (∀ w u, Okw w → SRuns w u m → Calls Tryd.prog 19 #[.string s, u] w fun e w' => e = .returned (.bool false) ∧ Below w.heap.size w w')
theorem formAt (s : ByteArray) (m : List Sp) (h : checkB s.data.toList m = false) : FormAt s m :=
  ⟨fun w u v hw hu => join_form s u v m w hw hu h, fun w u hw hu => by have := check_any s u m w hw hu; rwa [h] at this⟩
def ArgAt (s : ByteArray) (l : List Sp) (ts : List ByteArray) : Prop := ∀ w u v, Okw w → SRuns w u l → TRuns w v ts → Calls Tryd.prog 17 #[.string s, u, v] w fun e w' => e = .returned (.tuple #[.string ⟨#[]⟩, .int .i64 2]) ∧ Below w.heap.size w w'

theorem repeatX : (⟨(Lib.repeatL (ByteArray.mk #[120]).data.toList 3).toArray⟩ : ByteArray) = ⟨#[120, 120, 120]⟩ := by decide +kernel
theorem wrong_doc (l : List Sp) : checkB (ByteArray.mk #[120, 120, 120] ++ ByteArray.mk #[255]).data.toList l = false := by
  have : docErr (ByteArray.mk #[120, 120, 120] ++ ByteArray.mk #[255]).data.toList = 3 := by decide +kernel
  unfold checkB; rw [this]; simp

end Go.Proofs.YtephhejfkihhgaaDoor
