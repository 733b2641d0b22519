/- Texts that several proofs of this seat share, one behind the other: YArg UArg. -/
import Derived.Test.YtljaibhhkjapmaaDoorPk20
import Derived.Test.YtljaibhhkjapmaaDoorPk22
import Derived.Test.YtljaibhhkjapmaaDoorRows
import Derived.Lib.SmallJoins
import Derived.SliceStrings
import Derived.Deep.Slices
import Derived.ChangeArms
import Derived.OpenShut
/- Arguments of layer 9 opened: a slice of words, a word by value, what is asked, by value. -/
namespace Go.Proofs.YtljaibhhkjapmaaDoor
open Go.ChangeShapes Go.WideShapes Go.ChangeAt Go.RowKit Go.Shelf Go.Deep Go.Joins
set_option linter.unusedSimpArgs false
set_option linter.unusedVariables false

theorem wrdFields : ∃ f0 f1 : Field, Tryd.prog.underlying 72 = some (.struct #[f0, f1]) ∧ f0.type = 9 ∧ f0.offset = 0 ∧ f1.type = 3 ∧ f1.offset = 1 :=
  ⟨_, _, Tryd.underlying72, rfl, rfl, rfl, rfl⟩
theorem cellsWrd9 : Tryd.prog.cellsOf 72 = 2 := by kernel_rfl
theorem cellsInt9 : Tryd.prog.cellsOf 3 = 1 := by kernel_rfl
theorem cellsStr9 : Tryd.prog.cellsOf 9 = 1 := by kernel_rfl
def wrdD {H : Type} (b : Wrd) : DataW H := .agg [.lit (.string b.1.data.toList), .lit (.int .i64 b.2)]
set_option maxRecDepth 100000 in
theorem wrd_of_cells {H : Type} {enc : TypeId × Value → H} {W : World} {fuel : Nat} {cs : List Value} {x : DataW H × List MemPlace} (h : DataW.trod enc Tryd.prog W 0 (fun _ => true) true fuel 72 cs = some x) : ∃ p : Wrd, cs = wrdCell p ∧ x.1 = wrdD p := by
  obtain ⟨f0, f1, hu, t0, o0, t1, o1⟩ := wrdFields
  obtain ⟨xs, n, _, hx, hlen, hxl, hf⟩ := DataW.trod_struct hu h
  rw [cellsWrd9] at hlen
  have h0 := hf 0 f0 rfl
  have h1 := hf 1 f1 rfl
  rw [t0, o0, cellsStr9] at h0
  rw [t1, o1, cellsInt9] at h1
  have hx3 : xs.length = 2 := hxl
  match cs, hlen, xs, hx3 with
  | [c0, c1], _, [x0, x1], _ =>
    obtain ⟨a0, e0, d0, _⟩ := DataW.trod_string Tryd.underlying9 h0
    obtain ⟨a1, e1, d1, _⟩ := DataW.trod_int Tryd.underlying3 h1
    simp at e0 e1 d0 d1
    refine ⟨(a0, a1), by rw [e0, e1]; rfl, ?_⟩
    rw [hx]
    simp [wrdD, d0, d1]
/-- A slice of structs, read. -/
theorem gruns_of_trod9 {H : Type} {enc : TypeId × Value → H} {W : World} {fuel : Nat} {v : Value} {x : DataW H × List MemPlace} {tS tE : TypeId} {α : Type} (z : α) {cell : α → List Value} {dat : α → DataW H} {k : Nat} (hk0 : 0 < k) (hU : Tryd.prog.underlying tS = some (.slice tE)) (hcl : Tryd.prog.cellsOf tE = k) (hln : ∀ p, (cell p).length = k)
    (hone : ∀ {fuel : Nat} {cs : List Value} {x : DataW H × List MemPlace}, DataW.trod enc Tryd.prog W 0 (fun _ => true) true fuel tE cs = some x → ∃ p, cs = cell p ∧ x.1 = dat p)
    (h : DataW.trod enc Tryd.prog W 0 (fun _ => true) true fuel tS [v] = some x) : ∃ l : List α, GRuns cell k W v l ∧ ((x.1 = .nil ∧ l = []) ∨ ∃ sp, x.1 = .slice (l.map dat) sp) := by
  rcases open_slice hU h with ⟨h0, hx⟩ | ⟨a, len, cap, m, n, D, Pl, hcs, _, hl, hm, hmm, hx, hi⟩
  · obtain rfl : v = .slice none 0 0 := by simpa using h0
    exact ⟨[], GRuns.nil_ _ _ _, .inl ⟨by rw [hx], rfl⟩⟩
  · obtain rfl : v = .slice (some a) len cap := by simpa using hcs
    simp only [if_true] at hmm
    subst hmm
    have hex : ∀ i, i < len → ∃ p : α, (∀ j, j < k → W.cell? (a.add (i * k + j)) = (cell p)[j]?) ∧ D i = dat p := by
      intro i hil
      obtain ⟨cs', hc, ht⟩ := hi i (by omega)
      rw [hcl] at hc
      obtain ⟨p, rfl, hd⟩ := hone ht
      obtain ⟨_, _, hat⟩ := World.cells?_some hc
      exact ⟨p, fun j hj => by rw [← Go.Deep.add_add]; exact hat j hj, hd⟩
    obtain ⟨f, hf⟩ : ∃ f : Nat → α, ∀ i, i < len → (∀ j, j < k → W.cell? (a.add (i * k + j)) = (cell (f i))[j]?) ∧ D i = dat (f i) := by
      refine ⟨fun i => if hi : i < len then Classical.choose (hex i hi) else z, fun i hi => ?_⟩
      simp only [hi, dif_pos]
      exact Classical.choose_spec (hex i hi)
    have hll : ((List.range len).map f).length = len := by simp
    refine ⟨(List.range len).map f, ⟨some a, _, by rw [hll], by rw [hll]; exact hl, ⟨hm, fun h => by cases h⟩, fun hp => ?_⟩, .inr ⟨(List.range (m - len)).map fun j => D (len + j), ?_⟩⟩
    · rw [hll] at hp
      obtain ⟨b, off, spot⟩ := a
      have hc0 : 0 < (cell (f 0)).length := by rw [hln]; exact hk0
      have h00 := (hf 0 hp).1 0 hk0
      rw [List.getElem?_eq_getElem hc0] at h00
      have hspot : spot = none := by simpa [Addr.add] using World.cell?_spot h00
      subst hspot
      have hblt : b < W.heap.size := by
        have := World.block_lt_of_cell? W _ h00
        simpa [Addr.add] using this
      refine ⟨b, off, rfl, hblt, fun j x hj i u hu => ?_⟩
      have hjl : j < len := by have := (List.getElem?_eq_some_iff.1 hj).1; rwa [hll] at this
      have hxe : f j = x := by
        rw [List.getElem?_map, List.getElem?_range hjl] at hj
        simpa using hj
      have hik : i < k := by have := (List.getElem?_eq_some_iff.1 hu).1; rwa [hln] at this
      have h1 := (hf j hjl).1 i hik
      rw [hxe, hu, addr_add] at h1
      rw [Nat.add_assoc]
      exact h1
    · rw [hx]
      have e : (List.range len).map D = ((List.range len).map f).map dat := by
        rw [List.map_map]
        exact List.map_congr_left (fun i hi => (hf i (List.mem_range.1 hi)).2)
      rw [e]
theorem words_of_trod {H : Type} {enc : TypeId × Value → H} {W : World} {fuel : Nat} {v : Value} {x : DataW H × List MemPlace} (h : DataW.trod enc Tryd.prog W 0 (fun _ => true) true fuel 22 [v] = some x) :
    ∃ l : List Wrd, WRuns W v l ∧ ((x.1 = .nil ∧ l = []) ∨ ∃ sp, x.1 = .slice (l.map wrdD) sp) :=
  gruns_of_trod9 (ByteArray.empty, 0) (by decide) Tryd.underlying22 cellsWrd9 (fun _ => rfl) (fun h => wrd_of_cells h) h
set_option maxRecDepth 100000 in
theorem words_of_arg {H : Type} {enc : TypeId × Value → H} {W : World} {base : Nat} {v : Value} {d : DataW H} {p : List MemPlace} (hv : Value.okWide Tryd.prog W .any base 22 v) (h : DataW.Trod enc Tryd.prog W 0 (fun _ => true) true 22 v d p) :
    ∃ l : List Wrd, WRuns W v l ∧ ((d = .nil ∧ l = []) ∨ ∃ sp, d = .slice (l.map wrdD) sp) := by
  obtain ⟨a0, len, cap, rfl⟩ := okWide_slice Tryd.underlying22 hv
  obtain ⟨fuel, hf⟩ := h
  exact words_of_trod hf
/-- The form's own bound on each text. -/
theorem words_weights {H : Type} {d : DataW H} {l : List Wrd} (hd : (d = .nil ∧ l = []) ∨ ∃ sp, d = .slice (l.map wrdD) sp) (hw : (DataW.weights Tryd.prog 22 d).all (· ≤ reachBytes) = true) : szMW l := by
  have h3 : reachBytes = 140737488351232 := by decide
  rcases hd with ⟨_, rfl⟩ | ⟨sp, rfl⟩
  · exact fun b hb => by simp at hb
  simp only [DataW.weights, Tryd.underlying22, List.all_cons, List.all_append, Bool.and_eq_true] at hw
  have hw2 := hw.2.1
  clear hw
  induction l with
  | nil => exact fun b hb => by simp at hb
  | cons a l ih =>
    simp only [List.map_cons, DataW.weightsAll, List.all_append, Bool.and_eq_true] at hw2
    have h1 := hw2.1
    simp only [wrdD, DataW.weights, Tryd.underlying72, List.map_cons, List.map_nil, DataW.weightsEach, List.all_append, List.all_cons, List.all_nil, Bool.and_true, Bool.and_eq_true, decide_eq_true_eq, h3] at h1
    intro b hb
    rcases List.mem_cons.1 hb with rfl | hb
    · rw [Lib.size_eq]; omega
    · exact ih hw2.2 b hb
set_option maxRecDepth 100000 in
theorem wrd_of_arg {H : Type} {enc : TypeId × Value → H} {W : World} {base : Nat} {v : Value} {d : DataW H} {p : List MemPlace} (hv : Value.okWide Tryd.prog W .any base 72 v) (h : DataW.Trod enc Tryd.prog W 0 (fun _ => true) true 72 v d p) :
    ∃ b : Wrd, v = .agg #[.string b.1, .int .i64 b.2] ∧ d = .agg [.lit (.string b.1.data.toList), .lit (.int .i64 b.2)] := by
  obtain ⟨j0, j1, y0, y1, nn, rfl, rfl, _, g0, g1⟩ := open_agg2 Tryd.underlying72 (by kernel_rfl) (by kernel_rfl) hv h
  obtain ⟨a0, e0, e0', _⟩ := DataW.trod_string Tryd.underlying9 g0
  obtain ⟨a1, e1, e1', _⟩ := DataW.trod_int Tryd.underlying3 g1
  obtain rfl : j0 = .string a0 := by simpa using e0
  obtain rfl : j1 = .int .i64 a1 := by simpa using e1
  exact ⟨(a0, a1), rfl, by rw [e0', e1']⟩
theorem wrd_weights {H : Type} {b : Wrd} (hw : (DataW.weights (H := H) Tryd.prog 72 (.agg [.lit (.string b.1.data.toList), .lit (.int .i64 b.2)])).all (· ≤ reachBytes) = true) : b.1.size ≤ 140737488355328 := by
  have h3 : reachBytes = 140737488351232 := by decide
  simp only [DataW.weights, Tryd.underlying72, List.map_cons, List.map_nil, DataW.weightsEach, List.all_append, List.all_cons, List.all_nil, Bool.and_true, Bool.and_eq_true, decide_eq_true_eq, h3] at hw
  rw [Lib.size_eq]; omega
/-- The second form's bound. -/
theorem words_bulk {H : Type} {d : DataW H} {l : List Wrd} (hd : (d = .nil ∧ l = []) ∨ ∃ sp, d = .slice (l.map wrdD) sp) (hw : Rows.uptoBulk d ≤ 1048576) : l.length ≤ 2000000 ∧ szW l := by
  rcases hd with ⟨_, rfl⟩ | ⟨sp, rfl⟩
  · exact ⟨by simp, fun b hb => by simp at hb⟩
  simp only [Rows.uptoBulk] at hw
  have key : ∀ l : List Wrd, l.length ≤ Rows.uptoBulkAll (l.map (wrdD (H := H))) ∧ ∀ b ∈ l, b.1.size ≤ Rows.uptoBulkAll (l.map (wrdD (H := H))) := by
    intro l
    induction l with
    | nil => exact ⟨by simp, fun b hb => by simp at hb⟩
    | cons a l ih =>
      have e : Rows.uptoBulkAll ((a :: l).map (wrdD (H := H))) = a.1.data.toList.length + 1 + (1 + 0) + 1 + Rows.uptoBulkAll (l.map (wrdD (H := H))) := rfl
      rw [e, List.length_cons]
      refine ⟨by have := ih.1; omega, fun b hb => ?_⟩
      rcases List.mem_cons.1 hb with rfl | hb
      · rw [Lib.size_eq]; omega
      · have := ih.2 b hb; omega
  obtain ⟨k1, k2⟩ := key l
  exact ⟨by omega, fun b hb => by have := k2 b hb; omega⟩
end Go.Proofs.YtljaibhhkjapmaaDoor

/- Arguments of layer 11: a string's own bound; words, two texts, a number by value. -/
namespace Go.Proofs.YtljaibhhkjapmaaDoor
open Go.ChangeShapes Go.WideShapes Go.ChangeAt Go.RowKit Go.Shelf Go.Deep Go.Joins
open Go.ChangeMaps (open_string shut_string)
set_option linter.unusedSimpArgs false
set_option linter.unusedVariables false

theorem str_weights {H : Type} {s : ByteArray} (hw : (DataW.weights (H := H) Tryd.prog 9 (.lit (.string s.data.toList))).all (· ≤ reachBytes) = true) : s.size ≤ 140737488355328 := by
  have h3 : reachBytes = 140737488351232 := by decide
  simp only [DataW.weights, List.all_cons, List.all_nil, Bool.and_true, decide_eq_true_eq, h3] at hw
  rw [Lib.size_eq]; omega
set_option maxRecDepth 100000 in
theorem more_of_arg {H : Type} {enc : TypeId × Value → H} {W : World} {base : Nat} {v : Value} {d : DataW H} {p : List MemPlace} (hv : Value.okWide Tryd.prog W .any base 76 v) (h : DataW.Trod enc Tryd.prog W 0 (fun _ => true) true 76 v d p)
    (hZ : (DataW.weights Tryd.prog 76 d).all (· ≤ reachBytes) = true) :
    ∃ (u : Value) (l : List Wrd) (s t : ByteArray) (k : Int), v = .agg #[u, .string s, .string t, .int .u8 k] ∧ WRuns W u l ∧ szMW l ∧ s.size ≤ 140737488355328 ∧ t.size ≤ 140737488355328 ∧ 0 ≤ k ∧ k ≤ 255 := by
  obtain ⟨j0, j1, j2, j3, y0, y1, y2, y3, nn, rfl, rfl, _, g0, g1, g2, g3⟩ := open_agg4 Tryd.underlying76 (by kernel_rfl) (by kernel_rfl) hv h
  have hw : (DataW.weights Tryd.prog 22 y0.1 ++ (DataW.weights Tryd.prog 9 y1.1 ++ (DataW.weights Tryd.prog 9 y2.1 ++ (DataW.weights Tryd.prog 5 y3.1 ++ [])))).all (· ≤ reachBytes) = true := by
    have h9 := hZ
    simp only [List.cons_append, List.nil_append, List.append_nil, DataW.weightsEach, DataW.weights, Tryd.underlying76, List.map_cons, List.map_nil] at h9 ⊢
    exact h9
  rw [List.all_append, List.all_append, List.all_append, Bool.and_eq_true, Bool.and_eq_true, Bool.and_eq_true] at hw
  obtain ⟨l, hl, hd⟩ := words_of_trod g0
  obtain ⟨a1, e1, e1', _⟩ := DataW.trod_string Tryd.underlying9 g1
  obtain ⟨a2, e2, e2', _⟩ := DataW.trod_string Tryd.underlying9 g2
  obtain ⟨a3, e3, e3', w3⟩ := DataW.trod_int Tryd.underlying5 g3
  obtain rfl : j1 = .string a1 := by simpa using e1
  obtain rfl : j2 = .string a2 := by simpa using e2
  obtain rfl : j3 = .int .u8 a3 := by simpa using e3
  have k0 : 0 ≤ a3 ∧ a3 ≤ 255 := by
    simp [Lit.wf, IntKind.min, IntKind.max, IntKind.signed, IntKind.bits] at w3
    omega
  refine ⟨j0, l, a1, a2, a3, rfl, hl, words_weights hd hw.1, ?_, ?_, k0.1, k0.2⟩
  · have h9 := hw.2.1
    rw [e1'] at h9
    exact str_weights h9
  · have h9 := hw.2.2.1
    rw [e2'] at h9
    exact str_weights h9
end Go.Proofs.YtljaibhhkjapmaaDoor

