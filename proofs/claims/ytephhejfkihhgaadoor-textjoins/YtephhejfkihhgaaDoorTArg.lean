/- Arguments of layer 2 opened: a slice of pieces, a slice of texts, a text with both. -/
import Derived.Test.YtephhejfkihhgaaDoorTLaw
import Derived.Lib.SmallJoins
import Derived.SliceStrings
import Derived.Deep.Slices
import Derived.ChangeArms
import Derived.OpenShut
namespace Go.Proofs.YtephhejfkihhgaaDoor
open Go.ChangeShapes Go.WideShapes Go.ChangeAt Go.RowKit Go.Shelf Go.Deep Go.Joins

theorem spanFields : ∃ f0 f1 f2 : Field, Tryd.prog.underlying 43 = some (.struct #[f0, f1, f2]) ∧ f0.type = 3 ∧ f0.offset = 0 ∧ f1.type = 3 ∧ f1.offset = 1 ∧ f2.type = 4 ∧ f2.offset = 2 :=
  ⟨_, _, _, Tryd.underlying43, rfl, rfl, rfl, rfl, rfl, rfl⟩
theorem cellsSpan : Tryd.prog.cellsOf 43 = 3 := by kernel_rfl
theorem cellsInt : Tryd.prog.cellsOf 3 = 1 := by kernel_rfl
theorem cellsBool : Tryd.prog.cellsOf 4 = 1 := by kernel_rfl
theorem cellsStr : Tryd.prog.cellsOf 9 = 1 := by kernel_rfl

/-- One piece, read. -/
theorem span_of_cells {H : Type} {enc : TypeId × Value → H} {W : World} {fuel : Nat} {cs : List Value} {x : DataW H × List MemPlace} (h : DataW.trod enc Tryd.prog W 0 (fun _ => true) true fuel 43 cs = some x) : ∃ p : Sp, cs = spC p := by
  obtain ⟨f0, f1, f2, hu, t0, o0, t1, o1, t2, o2⟩ := spanFields
  obtain ⟨xs, n, _, _, hlen, hxl, hf⟩ := DataW.trod_struct hu h
  rw [cellsSpan] at hlen
  have h0 := hf 0 f0 rfl
  have h1 := hf 1 f1 rfl
  have h2 := hf 2 f2 rfl
  rw [t0, o0, cellsInt] at h0
  rw [t1, o1, cellsInt] at h1
  rw [t2, o2, cellsBool] at h2
  have hx3 : xs.length = 3 := hxl
  match cs, hlen with
  | [c0, c1, c2], _ =>
    rw [List.getElem?_eq_getElem (by omega)] at h0 h1 h2
    obtain ⟨a0, e0, _, _⟩ := DataW.trod_int Tryd.underlying3 h0
    obtain ⟨a1, e1, _, _⟩ := DataW.trod_int Tryd.underlying3 h1
    obtain ⟨a2, e2, _⟩ := DataW.trod_bool Tryd.underlying4 h2
    simp at e0 e1 e2
    exact ⟨(a0, a1, a2), by rw [e0, e1, e2]; rfl⟩
/-- A slice of pieces, read. -/
theorem spans_of_trod {H : Type} {enc : TypeId × Value → H} {W : World} {fuel : Nat} {v : Value} {x : DataW H × List MemPlace} (h : DataW.trod enc Tryd.prog W 0 (fun _ => true) true fuel 23 [v] = some x) : ∃ l : List Sp, SRuns W v l := by
  rcases open_slice Tryd.underlying23 h with ⟨h0, _⟩ | ⟨a, len, cap, m, n, D, Pl, hcs, _, hl, hm, hmm, _, hi⟩
  · obtain rfl : v = .slice none 0 0 := by simpa using h0
    exact ⟨[], SRuns.nil_ _⟩
  · obtain rfl : v = .slice (some a) len cap := by simpa using hcs
    simp only [if_true] at hmm
    subst hmm
    have hex : ∀ i, i < len → ∃ p : Sp, ∀ j, j < 3 → W.cell? (a.add (i * 3 + j)) = (spC p)[j]? := by
      intro i hil
      obtain ⟨cs', hc, ht⟩ := hi i (by omega)
      rw [cellsSpan] at hc
      obtain ⟨p, rfl⟩ := span_of_cells ht
      obtain ⟨_, _, hat⟩ := World.cells?_some hc
      exact ⟨p, fun j hj => by rw [← Go.Deep.add_add]; exact hat j hj⟩
    obtain ⟨f, hf⟩ : ∃ f : Nat → Sp, ∀ i, i < len → ∀ j, j < 3 → W.cell? (a.add (i * 3 + j)) = (spC (f i))[j]? := by
      refine ⟨fun i => if hi : i < len then Classical.choose (hex i hi) else sp0, fun i hi => ?_⟩
      simp only [hi, dif_pos]
      exact Classical.choose_spec (hex i hi)
    have hll : ((List.range len).map f).length = len := by simp
    refine ⟨(List.range len).map f, some a, _, by rw [hll], by rw [hll]; exact hl, ⟨hm, fun h => by cases h⟩, fun hp => ?_⟩
    rw [hll] at hp ⊢
    obtain ⟨b, off, spot⟩ := a
    have h00 := hf 0 hp 0 (by decide)
    have hspot : spot = none := by simpa [Addr.add] using World.cell?_spot (h00.trans (by rfl : (spC (f 0))[0]? = some (.int .i64 (f 0).1)))
    subst hspot
    have hblt : b < W.heap.size := by
      rcases Nat.lt_or_ge b W.heap.size with h' | h'
      · exact h'
      · rw [addr_add] at h00
        simp [World.cell?, Array.getElem?_eq_none h', spC] at h00
    refine ⟨b, off, rfl, hblt, fun j hj => ?_⟩
    have hg : ((List.range len).map f).getD j (0, 0, false) = f j := by simp [List.getD_eq_getElem?_getD, hj]
    rw [hg]
    refine ⟨?_, ?_, ?_⟩
    · have := hf j hj 0 (by decide); rw [addr_add] at this; exact this
    · have := hf j hj 1 (by decide); rw [addr_add] at this; exact this
    · have := hf j hj 2 (by decide); rw [addr_add] at this; exact this
/-- A slice of texts, read; how many bytes its row has. -/
theorem texts_of_trod {H : Type} {enc : TypeId × Value → H} {W : World} {fuel : Nat} {v : Value} {x : DataW H × List MemPlace} (h : DataW.trod enc Tryd.prog W 0 (fun _ => true) true fuel 27 [v] = some x) (hw : (DataW.weights Tryd.prog 27 x.1).all (· ≤ reachBytes) = true) :
    ∃ ts : List ByteArray, TRuns W v ts ∧ ts.length * 16 ≤ 140737488351232 := by
  rcases open_strings Tryd.underlying27 Tryd.underlying9 cellsStr h with ⟨h0, _⟩ | ⟨a, len, cap, ss, hcs, _, hl, hm, hss, hx, hcell, _⟩
  · obtain rfl : v = .slice none 0 0 := by simpa using h0
    exact ⟨[], TRuns.nil_ _, by simp⟩
  · obtain rfl : v = .slice (some a) len cap := by simpa using hcs
    simp only [if_true] at hss
    have hll : (ss.take len).length = len := by rw [List.length_take]; omega
    subst hx
    have hb16 : Tryd.prog.bytesOf 9 = 16 := by kernel_rfl
    have hwt : len * 16 ≤ 140737488351232 := by
      simp only [DataW.weights, Tryd.underlying27, List.all_cons, Bool.and_eq_true, decide_eq_true_eq, hb16] at hw
      have h1 := hw.1
      have h2 : ∀ l : List ByteArray, (strs (H := H) l).length = l.length := fun l => by simp [strs]
      rw [h2, h2, hll] at h1
      have h3 : reachBytes = 140737488351232 := by decide
      rw [h3] at h1
      omega
    refine ⟨ss.take len, ⟨some a, cap, by rw [hll], by omega, ⟨hm, fun h => by cases h⟩, fun hp => ?_⟩, by rw [hll]; exact hwt⟩
    rw [hll] at hp ⊢
    obtain ⟨b, off, spot⟩ := a
    have h00 := hcell 0 (by omega)
    have hspot : spot = none := by simpa [Addr.add] using World.cell?_spot h00
    subst hspot
    have hblt : b < W.heap.size := by
      rcases Nat.lt_or_ge b W.heap.size with h' | h'
      · exact h'
      · rw [addr_add] at h00
        simp [World.cell?, Array.getElem?_eq_none h'] at h00
    refine ⟨b, off, rfl, hblt, fun j hj => ?_⟩
    have := hcell j (by omega)
    rw [addr_add] at this
    rw [this]
    have hjs : j < ss.length := by omega
    simp [List.getD_eq_getElem?_getD, List.getElem?_take, hj, hjs]
end Go.Proofs.YtephhejfkihhgaaDoor
