/- Texts that several proofs of this seat share, one behind the other: USpD UDocS UCmpL Frame. -/
import Derived.Test.YtljaibhhkjapmaaDoorPk21
import Derived.Test.YtljaibhhkjapmaaDoorPk20
import Derived.Test.YtljaibhhkjapmaaDoorPk4
import Derived.Test.YtljaibhhkjapmaaDoorCards
import Derived.Test.YtljaibhhkjapmaaDoorTie
import Derived.OpenShut
import Derived.Deep.DeepHandedRow
import Derived.Lib.LaidTab
import Derived.Lib.LaidU8T
import Derived.Carry
/- errataref11.Split: its tables, as they lie. -/
namespace Go.Proofs.YtljaibhhkjapmaaDoor
open Go.RowKit Go.Shelf
attribute [local go_sem] Oper.semAt_some
set_option linter.unusedSimpArgs false
set_option linter.unusedVariables false

theorem tx_keep {w : World} {v : Value} {l : List ByteArray} (h : GRuns txCell 1 w v l) {G : Nat} {T : TypeId} {cs : Array Value} (hG : Bx w G T cs) (hcs : ∀ c ∈ cs, ∀ s, c ≠ Value.string s) (j : Nat) (u : Value) : GRuns txCell 1 (w.setCell ⟨G, j, none⟩ u) v l := by
  obtain ⟨A, c, e, hc, hm, hx⟩ := h
  refine ⟨A, c, e, hc, hm, fun hp => ?_⟩
  obtain ⟨b, o, eA, hlt, hcell⟩ := hx hp
  have hne : b ≠ G := by
    rintro rfl
    obtain ⟨x, hx0⟩ : ∃ x, l[0]? = some x := ⟨_, List.getElem?_eq_getElem hp⟩
    have h1 := hcell 0 x hx0 0 _ rfl
    rw [cell_of_row _ _ _ _ _ (0, 0) hG] at h1
    exact hcs _ (Array.mem_of_getElem? h1) x rfl
  refine ⟨b, o, eA, by rw [World.size_setCell]; exact hlt, fun j x hj i u hu => ?_⟩
  rw [World.cell?_of_block (Below.heap_setCell _ _ _ _ hne)]
  exact hcell j x hj i u hu
/-- Whether ends are made of words, and of which. -/
structure SpW (w : World) (G1 G2 : Nat) (M : List Bool) (Y : List (List ByteArray)) : Prop where
  made : Bx w G2 4 (M.map Value.bool).toArray
  ways : ∃ vs : List Value, Bx w G1 61 vs.toArray ∧ vs.length = Y.length ∧ ∀ (i : Nat) (v : Value) (y : List ByteArray), vs[i]? = some v → Y[i]? = some y → GRuns txCell 1 w v y
theorem SpW.below {w w' : World} {G1 G2 : Nat} {M : List Bool} {Y : List (List ByteArray)} (h : SpW w G1 G2 M Y) (hb : Below w.heap.size w w') : SpW w' G1 G2 M Y := by
  obtain ⟨vs, h1, h2, h3⟩ := h.ways
  exact ⟨Bx.below h.made hb, vs, Bx.below h1 hb, h2, fun i v y hv hy => (h3 i v y hv hy).below hb⟩
theorem SpW.made_at {w : World} {G1 G2 : Nat} {M : List Bool} {Y : List (List ByteArray)} (h : SpW w G1 G2 M Y) {i : Nat} {b : Bool} (hi : M[i]? = some b) : w.cell? ⟨G2, i, none⟩ = some (.bool b) := Bx.cell h.made (by rw [List.getElem?_toArray, List.getElem?_map, hi]; rfl)
theorem SpW.ways_at {w : World} {G1 G2 : Nat} {M : List Bool} {Y : List (List ByteArray)} (h : SpW w G1 G2 M Y) {i : Nat} {y : List ByteArray} (hi : Y[i]? = some y) : ∃ v, w.cell? ⟨G1, i, none⟩ = some v ∧ GRuns txCell 1 w v y := by
  obtain ⟨vs, h1, h2, h3⟩ := h.ways
  have hlt := (List.getElem?_eq_some_iff.1 hi).1
  have hv : vs[i]? = some vs[i] := List.getElem?_eq_getElem (by omega)
  exact ⟨vs[i], Bx.cell h1 (by rw [List.getElem?_toArray]; exact hv), h3 i _ y hv hi⟩
theorem SpW.store {w : World} {G1 G2 : Nat} {M : List Bool} {Y : List (List ByteArray)} (h : SpW w G1 G2 M Y) (hne : G1 ≠ G2) (i : Nat) {v : Value} {y : List ByteArray} (hv : GRuns txCell 1 w v y) : SpW ((w.setCell ⟨G2, i, none⟩ (.bool true)).setCell ⟨G1, i, none⟩ v) G1 G2 (M.set i true) (Y.set i y) := by
  obtain ⟨vs, h1, h2, h3⟩ := h.ways
  have hb : ∀ c ∈ (M.map Value.bool).toArray, ∀ s, c ≠ Value.string s := fun c hc s e => by
    rw [List.mem_toArray] at hc
    obtain ⟨b, _, rfl⟩ := List.mem_map.1 hc
    cases e
  have hw : ∀ c ∈ vs.toArray, ∀ s, c ≠ Value.string s := fun c hc s e => by
    rw [List.mem_toArray] at hc
    obtain ⟨j, hj⟩ := List.mem_iff_getElem?.1 hc
    have hlt := (List.getElem?_eq_some_iff.1 hj).1
    obtain ⟨A, c', e2⟩ := (h3 j c _ hj (List.getElem?_eq_getElem (by omega))).slice
    rw [e] at e2; cases e2
  have h1' : Bx (w.setCell ⟨G2, i, none⟩ (.bool true)) G1 61 vs.toArray := (Below.heap_setCell _ _ _ _ hne).trans h1
  have hk : ∀ v y, GRuns txCell 1 w v y → GRuns txCell 1 ((w.setCell ⟨G2, i, none⟩ (.bool true)).setCell ⟨G1, i, none⟩ _) v y := fun v' y' h' => tx_keep (tx_keep h' h.made hb i (.bool true)) h1' hw i v
  have hm := z_set_cells h.made i (.bool true)
  have hm2 : Bx ((w.setCell ⟨G2, i, none⟩ (.bool true)).setCell ⟨G1, i, none⟩ v) G2 4 ((M.set i true).map Value.bool).toArray := by
    refine (Below.heap_setCell _ _ _ _ (fun e => hne e.symm)).trans ?_
    rw [hm, List.map_set]
    simp
  have hs := z_set_cells h1' i v
  refine ⟨hm2, vs.set i v, ?_, by rw [List.length_set, List.length_set]; exact h2, fun j v' y' hv' hy' => ?_⟩
  · unfold Bx
    rw [hs]
    simp
  · by_cases hij : i = j
    · subst hij
      have hl := (List.getElem?_eq_some_iff.1 hv').1
      rw [List.length_set] at hl
      rw [List.getElem?_set_self hl] at hv'
      rw [List.getElem?_set_self (by omega)] at hy'
      obtain rfl := Option.some.inj hv'
      obtain rfl := Option.some.inj hy'
      exact hk _ _ hv
    · rw [List.getElem?_set_ne hij] at hv' hy'
      exact hk _ _ (h3 j v' y' hv' hy')
theorem info_txs : (Tryd.prog.info? 61).map (fun i => (i.zero, i.size, i.bytes)) = some (some (.slice none 0 0), 1, 24) := by kernel_rfl
theorem info_bl : (Tryd.prog.info? 4).map (fun i => (i.zero, i.size, i.bytes)) = some (some (.bool false), 1, 1) := by kernel_rfl
theorem make_txs (w : World) (n : Nat) (hn : n ≤ 1000000) : (Instr.makeSlice 118 (.int .i64 (n : Int)) (.int .i64 (n : Int))).run Tryd.prog w =
    .ok (.slice (some ⟨w.heap.size, 0, none⟩) n n) (w.alloc (.cells (List.replicate n (Value.slice none 0 0)).toArray 61)) := by
  obtain ⟨i0, hi, hz0, hz1, hz2⟩ := info_parts info_txs
  have h := run_make (P := Tryd.prog) w 118 61 i0 _ Tryd.underlying118 hi hz0 .i64 .i64 (n : Int) (n : Int) (by omega) (Int.le_refl _) (by rw [hz2]; omega) (by omega)
  rw [h, hz1]
  have e : madeCells (Value.slice none 0 0).cells (n * 1) = (List.replicate n (Value.slice none 0 0)).toArray := by
    rw [Nat.mul_one]
    apply Array.ext
    · simp [size_madeCells]
    · intro i h1 h2
      simp [madeCells, Value.cells, Nat.mod_one]
  simp only [Int.toNat_natCast]
  rw [e]
theorem make_bls (w : World) (n : Nat) (hn : n ≤ 1000000) : (Instr.makeSlice 119 (.int .i64 (n : Int)) (.int .i64 (n : Int))).run Tryd.prog w =
    .ok (.slice (some ⟨w.heap.size, 0, none⟩) n n) (w.alloc (.cells (List.replicate n (Value.bool false)).toArray 4)) := by
  obtain ⟨i0, hi, hz0, hz1, hz2⟩ := info_parts info_bl
  have h := run_make (P := Tryd.prog) w 119 4 i0 _ Tryd.underlying119 hi hz0 .i64 .i64 (n : Int) (n : Int) (by omega) (Int.le_refl _) (by rw [hz2]; omega) (by omega)
  rw [h, hz1]
  have e : madeCells (Value.bool false).cells (n * 1) = (List.replicate n (Value.bool false)).toArray := by
    rw [Nat.mul_one]
    apply Array.ext
    · simp [size_madeCells]
    · intro i h1 h2
      simp [madeCells, Value.cells, Nat.mod_one]
  simp only [Int.toNat_natCast]
  rw [e]
/-- What the tables tell: of the ends from a place on, all. -/
structure SpT (W : Rst) (B : List UInt8) (N k : Nat) (M : List Bool) (Y : List (List ByteArray)) : Prop where
  lm : M.length = N + 1
  ly : Y.length = N + 1
  hi : ∀ i, k ≤ i → i ≤ N → M[i]? = some (mdB W (B.drop i)) ∧ Y[i]? = some (wyT W (B.drop i))
  lo : ∀ i, i < k → M[i]? = some false ∧ Y[i]? = some []
/-- The same, with what has been found of the end that is looked at. -/
structure SpR (W : Rst) (B : List UInt8) (N k : Nat) (acc : Option (List ByteArray)) (M : List Bool) (Y : List (List ByteArray)) : Prop where
  lm : M.length = N + 1
  ly : Y.length = N + 1
  hi : ∀ i, k < i → i ≤ N → M[i]? = some (mdB W (B.drop i)) ∧ Y[i]? = some (wyT W (B.drop i))
  cur : M[k]? = some acc.isSome ∧ Y[k]? = some (acc.getD [])
  lo : ∀ i, i < k → M[i]? = some false ∧ Y[i]? = some []
theorem SpT.start (W : Rst) (B : List UInt8) {N : Nat} (hN : B.length = N) : SpT W B N N ((List.replicate (N + 1) false).set N true) (List.replicate (N + 1) []) := by
  refine ⟨by simp, by simp, fun i h1 h2 => ?_, fun i h1 => ?_⟩
  · obtain rfl : i = N := by omega
    have hd : B.drop i = [] := List.drop_of_length_le (by omega)
    rw [hd, (mdB_nil W).1, (mdB_nil W).2]
    exact ⟨List.getElem?_set_self (by simp), by simp⟩
  · rw [List.getElem?_set_ne (by omega), List.getElem?_replicate, List.getElem?_replicate, if_pos (by omega), if_pos (by omega)]
    exact ⟨rfl, rfl⟩
theorem SpT.look {W : Rst} {B : List UInt8} {N k : Nat} {M : List Bool} {Y : List (List ByteArray)} (h : SpT W B N (k + 1) M Y) : SpR W B N k none M Y :=
  ⟨h.lm, h.ly, fun i h1 h2 => h.hi i (by omega) h2, h.lo k (by omega), fun i h1 => h.lo i (by omega)⟩
theorem SpR.upd {W : Rst} {B : List UInt8} {N k : Nat} {acc : Option (List ByteArray)} {M : List Bool} {Y : List (List ByteArray)} (h : SpR W B N k acc M Y) (hk : k ≤ N) (y : List ByteArray) : SpR W B N k (some y) (M.set k true) (Y.set k y) :=
  ⟨by rw [List.length_set]; exact h.lm, by rw [List.length_set]; exact h.ly,
   fun i h1 h2 => by rw [List.getElem?_set_ne (by omega), List.getElem?_set_ne (by omega)]; exact h.hi i h1 h2,
   ⟨List.getElem?_set_self (by rw [h.lm]; omega), List.getElem?_set_self (by rw [h.ly]; omega)⟩,
   fun i h1 => by rw [List.getElem?_set_ne (by omega), List.getElem?_set_ne (by omega)]; exact h.lo i h1⟩
theorem SpR.done {W : Rst} {B : List UInt8} {N k : Nat} {acc : Option (List ByteArray)} {M : List Bool} {Y : List (List ByteArray)} (h : SpR W B N k acc M Y) (ha : acc = if mdB W (B.drop k) = true then some (wyT W (B.drop k)) else none) : SpT W B N k M Y := by
  refine ⟨h.lm, h.ly, fun i h1 h2 => ?_, h.lo⟩
  rcases Nat.lt_or_ge k i with h3 | h3
  · exact h.hi i h3 h2
  · obtain rfl : i = k := by omega
    have hc := h.cur
    rw [ha] at hc
    by_cases hm : mdB W (B.drop i) = true
    · rw [if_pos hm] at hc
      rw [hm]; exact hc
    · rw [if_neg hm] at hc
      have hm' : mdB W (B.drop i) = false := by simpa using hm
      have hw : wyT W (B.drop i) = [] := by unfold wyT; rw [if_neg hm]
      rw [hm', hw]; exact hc
theorem tx_lit (w : World) (s : ByteArray) : (w.alloc (.cells #[.string s] 9)).ownsRow w.heap.size 9 1 (.slice (some ⟨w.heap.size, 0, none⟩) 1 1) 1 (txCell s) :=
  ⟨rfl, .inr ⟨w.heap.size, 1, #[.string s], rfl, Nat.le_refl _, heap_alloc_new w _, by decide, by unfold maxLen; decide, rfl, rfl⟩⟩
end Go.Proofs.YtljaibhhkjapmaaDoor

/- errataref11.Split: the words of which a text is made. -/
namespace Go.Proofs.YtljaibhhkjapmaaDoor
open Go.RowKit Go.Shelf
attribute [local go_sem] Oper.semAt_some
set_option linter.unusedSimpArgs false
set_option linter.unusedVariables false

theorem way_few {l : List Wrd} (h : wisS l = 0) {s : ByteArray} (hv : Lib.validD s.data.toList = true) (hl : (items s.data.toList).length ≤ 64) (i : Nat) : (wyT (rnW l) (s.data.toList.drop i)).length ≤ 64 := by
  by_cases hm : mdB (rnW l) (s.data.toList.drop i) = true
  · rw [wyT_len hm]
    have hm2 := hm
    unfold mdB at hm2
    rw [Bool.and_eq_true, decide_eq_true_eq] at hm2
    have h1 := suffix_len hv hm2.1 (List.drop_suffix _ _)
    rcases cut_len (no_empty h) _ (items (s.data.toList.drop i)) rfl with h2 | h2
    · exact absurd h2 hm2.2
    · omega
  · unfold wyT; rw [if_neg hm]; exact Nat.zero_le _
theorem acc_few {W : List (List Int)} {b : List UInt8} (hw : ∀ i, (wyT W (b.drop i)).length ≤ 64) (l : List Wrd) : ∀ acc, (∀ a, acc = some a → a.length ≤ 65) → ∀ a, l.foldl (stpW W b) acc = some a → a.length ≤ 65 := by
  induction l with
  | nil => intro acc h; exact h
  | cons x l ih =>
    intro acc h
    refine ih _ (fun a ha => ?_)
    have h1 := hw x.1.size
    unfold stpW at ha
    split at ha
    · cases acc with
      | none =>
        simp only at ha
        obtain rfl := Option.some.inj ha
        rw [List.length_cons]; omega
      | some c =>
        simp only at ha
        split at ha
        · obtain rfl := Option.some.inj ha
          rw [List.length_cons]; omega
        · exact h a ha
    · exact h a ha
theorem pre_at (s p : ByteArray) (k : Nat) : preK p (s.extract k s.size) = Lib.hasPrefix (s.data.toList.drop k) p.data.toList := by
  unfold preK; rw [Lib.extract_to_end]
theorem pre_at_len {s p : ByteArray} {k : Nat} (hk : k < s.size) (h : preK p (s.extract k s.size) = true) : k + p.size ≤ s.size := by
  rw [pre_at, pre_bytes] at h
  have h1 := h.length_le
  rw [List.length_drop, ← Lib.size_eq, ← Lib.size_eq] at h1
  omega
theorem word_some {l : List Wrd} (h : wisS l = 0) {x : Wrd} (hx : x ∈ l) : 0 < x.1.size := by
  rcases Nat.eq_zero_or_pos x.1.size with h1 | h1
  · have h2 : x.1.data.toList = [] := List.eq_nil_of_length_eq_zero (by rw [← Lib.size_eq]; exact h1)
    exact absurd (List.mem_map.2 ⟨x, hx, by show items x.1.data.toList = []; rw [h2]; exact items_nil⟩) (no_empty h)
  · exact h1
/-- A word that is passed over; one that is taken or not. -/
theorem stp_no {W : List (List Int)} {s p : ByteArray} {k : Nat} {n : Int} (acc : Option (List ByteArray)) (h : preK p (s.extract k s.size) = false ∨ mdB W (s.data.toList.drop (k + p.size)) = false) : stpW W (s.data.toList.drop k) acc (p, n) = acc := by
  have : cndB W (s.data.toList.drop k) (p, n) = false := by
    unfold cndB
    rw [← pre_at, List.drop_drop]
    rcases h with h | h
    · rw [h]; rfl
    · rw [h, Bool.and_false]
  unfold stpW
  rw [this]
  rfl
theorem stp_yes {W : List (List Int)} {s p : ByteArray} {k : Nat} {n : Int} (acc : Option (List ByteArray)) (h : preK p (s.extract k s.size) = true) (h2 : mdB W (s.data.toList.drop (k + p.size)) = true) : stpW W (s.data.toList.drop k) acc (p, n) = (match acc with
      | none => some (p :: wyT W (s.data.toList.drop (k + p.size)))
      | some a => if betB (p :: wyT W (s.data.toList.drop (k + p.size))) a = true then some (p :: wyT W (s.data.toList.drop (k + p.size))) else some a) := by
  have : cndB W (s.data.toList.drop k) (p, n) = true := by
    unfold cndB
    rw [← pre_at, List.drop_drop, h, h2]
    rfl
  unfold stpW
  rw [if_pos this]
  simp only [List.drop_drop]
  cases acc <;> rfl
theorem bx_soft {w : World} {b : Nat} {T : TypeId} {cs : Array Value} (h : Bx w b T cs) (i : Nat) : w.frozen? ⟨b, i, none⟩ = false := by
  unfold Bx at h
  simp [World.frozen?, h]
theorem SpW.mark {w : World} {G1 G2 : Nat} {M : List Bool} {Y : List (List ByteArray)} (h : SpW w G1 G2 M Y) (hne : G1 ≠ G2) (i : Nat) : SpW (w.setCell ⟨G2, i, none⟩ (.bool true)) G1 G2 (M.set i true) Y := by
  obtain ⟨vs, h1, h2, h3⟩ := h.ways
  have hb : ∀ c ∈ (M.map Value.bool).toArray, ∀ s, c ≠ Value.string s := fun c hc s e => by
    rw [List.mem_toArray] at hc
    obtain ⟨b, _, rfl⟩ := List.mem_map.1 hc
    cases e
  refine ⟨?_, vs, (Below.heap_setCell _ _ _ _ hne).trans h1, h2, fun j v y hv hy => tx_keep (h3 j v y hv hy) h.made hb i _⟩
  unfold Bx
  rw [z_set_cells h.made i (.bool true), List.map_set]
  simp
/-- What the two stores ask. -/
theorem SpW.soft {w : World} {G1 G2 : Nat} {M : List Bool} {Y : List (List ByteArray)} (h : SpW w G1 G2 M Y) (hne : G1 ≠ G2) {k : Nat} (hm : k < M.length) (hy : k < Y.length) :
    w.frozen? ⟨G2, k, none⟩ = false ∧ (∃ v, w.cell? ⟨G2, k, none⟩ = some v) ∧ (w.setCell ⟨G2, k, none⟩ (.bool true)).frozen? ⟨G1, k, none⟩ = false ∧ ∃ v, (w.setCell ⟨G2, k, none⟩ (.bool true)).cell? ⟨G1, k, none⟩ = some v := by
  have h2 := h.mark hne k
  obtain ⟨vs, g1, g2, g3⟩ := h2.ways
  obtain ⟨v, hv, _⟩ := h2.ways_at (List.getElem?_eq_getElem hy)
  exact ⟨bx_soft h.made k, ⟨_, h.made_at (List.getElem?_eq_getElem hm)⟩, bx_soft g1 k, v, hv⟩
/-- The two tables, made. -/
theorem SpW.born (w : World) (n : Nat) : SpW ((w.alloc (.cells (List.replicate n (Value.slice none 0 0)).toArray 61)).alloc (.cells (List.replicate n (Value.bool false)).toArray 4)) w.heap.size (w.heap.size + 1) (List.replicate n false) (List.replicate n []) := by
  refine ⟨?_, List.replicate n (Value.slice none 0 0), ?_, by simp, fun i v y hv hy => ?_⟩
  · have := heap_alloc_new (w.alloc (.cells (List.replicate n (Value.slice none 0 0)).toArray 61)) (.cells (List.replicate n (Value.bool false)).toArray 4)
    unfold Bx
    rw [List.map_replicate]
    simpa using this
  · exact Bx.below (heap_alloc_new w (.cells (List.replicate n (Value.slice none 0 0)).toArray 61)) (bel_one _ _)
  · rw [List.getElem?_replicate] at hv hy
    split at hv
    · rename_i hi
      rw [if_pos hi] at hy
      obtain rfl := Option.some.inj hv
      obtain rfl := Option.some.inj hy
      exact GRuns.nil_ _ _ _
    · cases hv
/-- The end: what is answered. -/
theorem SpT.end_ {l : List Wrd} {s : ByteArray} {N : Nat} {M : List Bool} {Y : List (List ByteArray)} (h : SpT (rnW l) s.data.toList N 0 M Y) (he : uE s.data.toList = 0) :
    (M[0]? = some false ∧ uspE (rnW l) s.data.toList = 10 ∧ uspS (rnW l) s.data.toList = []) ∨ (M[0]? = some true ∧ uspE (rnW l) s.data.toList = 0 ∧ Y[0]? = some (uspS (rnW l) s.data.toList)) := by
  obtain ⟨hv, hl, hs⟩ := uE_ok he
  obtain ⟨h1, h2⟩ := h.hi 0 (Nat.le_refl _) (Nat.zero_le _)
  rw [List.drop_zero] at h1 h2
  rw [uspE, uspS, if_pos he, if_pos he, hs]
  by_cases hc : (cut (rnW l) (items s.data.toList)).1 = 65
  · left
    have hm : mdB (rnW l) s.data.toList = false := by unfold mdB; rw [hv, Bool.true_and]; exact decide_eq_false (fun h => h hc)
    rw [hm] at h1
    refine ⟨h1, by rw [if_pos hc], ?_⟩
    unfold spl; rw [if_pos hc]; rfl
  · right
    have hm : mdB (rnW l) s.data.toList = true := by unfold mdB; rw [hv, Bool.true_and]; exact decide_eq_true hc
    rw [hm] at h1
    refine ⟨h1, by rw [if_neg hc], ?_⟩
    rw [h2]; unfold wyT; rw [if_pos hm]
set_option maxRecDepth 100000 in
theorem usplit_ref_no (u : Value) (W : Rst) (s : ByteArray) (w : World) (hs : s.size * 4 ≤ 140737488355328) (he : uE s.data.toList ≠ 0) :
    Calls Tryd.prog 36 #[u, .string s] w fun e w' => ∃ v, e = .returned (.tuple #[v, .int .i64 (uspE W s.data.toList)]) ∧ GRuns txCell 1 w' v (uspS W s.data.toList) ∧ Below w.heap.size w w' := by
  rw [uspS, uspE, if_neg he, if_neg he]
  have c1 := ucheck_any s w hs
  obtain ⟨er, her⟩ : ∃ z, uE s.data.toList = z := ⟨_, rfl⟩
  rw [her] at c1 he ⊢
  have h1 : (er == 0) = false := by simpa using he
  have h2 : (er != 0) = true := by simpa using he
  have C1 := Lib.hid c1
  clear c1 he her
  go_enter Tryd.func36, Tryd.ntmps36
  go_wp2_with fail
  refine C1.out.mono ?_
  rintro e w1 ⟨rfl, b1⟩
  have B1 := Lib.hid b1; clear b1
  go_wp2
  go_ret2
  exact ⟨_, rfl, GRuns.nil_ _ _ _, B1.out⟩
set_option maxRecDepth 100000 in
set_option maxHeartbeats 16000000 in
theorem usplit_ref (u : Value) (l : List Wrd) (hn : wisS l = 0) (s : ByteArray) (w : World) (hu : WRuns w u l) (hl : l.length ≤ 2000000) (hs : s.size * 4 ≤ 140737488355328) :
    Calls Tryd.prog 36 #[u, .string s] w fun e w' => ∃ v, e = .returned (.tuple #[v, .int .i64 (uspE (rnW l) s.data.toList)]) ∧ GRuns txCell 1 w' v (uspS (rnW l) s.data.toList) ∧ Below w.heap.size w w' := by
  by_cases he : uE s.data.toList = 0
  rotate_left
  · exact usplit_ref_no u (rnW l) s w hs he
  obtain ⟨hv, hil, hus⟩ := uE_ok he
  have hsz : s.size ≤ 256 := by
    have h1 := enc_items _ hv
    have h2 := encL_le (items s.data.toList)
    rw [h1, ← Lib.size_eq] at h2
    omega
  have c1 := ucheck_any s w hs
  rw [he] at c1
  obtain ⟨A, c, e⟩ := hu.slice
  subst e
  have hend := fun (M : List Bool) (Y : List (List ByteArray)) (h : SpT (rnW l) s.data.toList s.size 0 M Y) => h.end_ he
  obtain ⟨oe, hoe⟩ : ∃ z, uspE (rnW l) s.data.toList = z := ⟨_, rfl⟩
  obtain ⟨os, hos⟩ : ∃ z, uspS (rnW l) s.data.toList = z := ⟨_, rfl⟩
  simp only [hoe, hos] at hend
  rw [hoe, hos]
  obtain ⟨n, hnn⟩ : ∃ n, l.length = n := ⟨_, rfl⟩
  obtain ⟨P, hP⟩ : ∃ z, s.size + 1 = z := ⟨_, rfl⟩
  obtain ⟨f, hf⟩ : ∃ f, f = fun (k j : Nat) => accW (rnW l) (s.data.toList.drop k) (l.take j) := ⟨_, rfl⟩
  have hf0 : ∀ k, f k 0 = none := fun k => by rw [hf]; rfl
  have hfs : ∀ (k j : Nat) p q, l[j]? = some (p, q) → f k (j + 1) = stpW (rnW l) (s.data.toList.drop k) (f k j) (p, q) := fun k j p q h => by rw [hf]; exact accW_take j _ h
  have hfe : ∀ k, k < s.size → f k n = if mdB (rnW l) (s.data.toList.drop k) = true then some (wyT (rnW l) (s.data.toList.drop k)) else none := fun k hk => by
    rw [hf]
    show accW _ _ (l.take n) = _
    rw [List.take_of_length_le (by omega)]
    exact accW_is hn (fun e => by have := congrArg List.length e; rw [List.length_drop, ← Lib.size_eq, List.length_nil] at this; omega) (fun hb => Nat.le_trans (suffix_len hv hb (List.drop_suffix _ _)) hil)
  have hfl : ∀ (k j : Nat) a, f k j = some a → a.length ≤ 65 := fun k j a h => by
    rw [hf] at h
    exact acc_few (fun i => by rw [List.drop_drop]; exact way_few hn hv hil _) _ none (fun a h => by cases h) a h
  have hwf := fun i => way_few hn hv hil i
  have hws := fun x hx => word_some hn (x := x) hx
  have hst := SpT.start (rnW l) s.data.toList (N := s.size) (Lib.size_eq s).symm
  rw [hP] at hst
  rw [hnn] at hu hl ⊢
  have C1 := Lib.hid c1; have HU := Lib.hid hu; have HNN := Lib.hid hnn; have HEND := Lib.hid hend; have HF0 := Lib.hid hf0; have HFS := Lib.hid hfs; have HFE := Lib.hid hfe; have HFL := Lib.hid hfl; have HWF := Lib.hid hwf; have HWS := Lib.hid hws; have HST := Lib.hid hst
  obtain ⟨n0, hn0⟩ : ∃ z, w.heap.size = z := ⟨_, rfl⟩
  have HN0 := Lib.hid hn0
  have hP2 : (P : Int) = (s.size : Int) + 1 := by omega
  have hP3 : (s.size : Int) < (P : Int) := by omega
  have hP4 : (0 : Int) < (P : Int) := by omega
  have hP5 : P ≤ 257 := by omega
  clear c1 hu hnn hend hf0 hfs hfe hfl hwf hws hst hf hoe hos he hv hil hus hn0 hs
  go_enter Tryd.func36, Tryd.ntmps36
  go_wp2_with fail
  refine C1.out.mono ?_
  rintro e w1 ⟨rfl, b1⟩
  have hm1 := make_txs w1 P (by omega)
  have hm2 := make_bls (w1.alloc (.cells (List.replicate P (Value.slice none 0 0)).toArray 61)) P (by omega)
  have hborn := SpW.born w1 P
  have ha1 := bel_one w1 (.cells (List.replicate P (Value.slice none 0 0)).toArray 61)
  have ha2 := bel_one (w1.alloc (.cells (List.replicate P (Value.slice none 0 0)).toArray 61)) (.cells (List.replicate P (Value.bool false)).toArray 4)
  have hsz1 : (w1.alloc (.cells (List.replicate P (Value.slice none 0 0)).toArray 61)).heap.size = w1.heap.size + 1 := by simp
  have hbw := b1.size
  obtain ⟨G1, hG1⟩ : ∃ z, w1.heap.size = z := ⟨_, rfl⟩
  obtain ⟨W1, hW1⟩ : ∃ z, w1.alloc (.cells (List.replicate P (Value.slice none 0 0)).toArray 61) = z := ⟨_, rfl⟩
  obtain ⟨W2, hW2⟩ : ∃ z, W1.alloc (.cells (List.replicate P (Value.bool false)).toArray 4) = z := ⟨_, rfl⟩
  rw [hW1, hG1] at hsz1
  rw [hP2, hW1, hG1] at hm1
  rw [hP2, hW1, hW2, hsz1] at hm2
  rw [hW1, hW2, hG1] at hborn
  rw [hW1, hG1] at ha1
  rw [hW1, hW2, hsz1] at ha2
  rw [hG1] at hbw
  rw [HN0.out] at hbw b1
  obtain ⟨G2, hG2⟩ : ∃ z, G1 + 1 = z := ⟨_, rfl⟩
  rw [hG2] at hm2 hborn ha2
  have hne : G1 ≠ G2 := by omega
  have hmk := hborn.mark hne s.size
  have gm := hborn.made_at (i := s.size) (b := false) (by rw [List.getElem?_replicate, if_pos (by omega)])
  have gf := bx_soft hborn.made s.size
  have B3 : Hid (Below n0 w (W2.setCell ⟨G2, s.size, none⟩ (.bool true))) := Lib.hid (((b1.trans (ha1.mono (by omega))).trans (ha2.mono (by omega))).setCell (by show n0 ≤ G2; omega) _)
  have S3 := Lib.hid hmk
  have HGB : Hid (n0 ≤ G1 ∧ n0 ≤ G2) := Lib.hid ⟨by omega, by omega⟩
  have HNE := Lib.hid hne
  clear ha1 ha2 hsz1 hbw hG1 hW1 hW2 hborn hmk hne b1 hG2
  go_wp2
  go_loopw [9] (fun s9 wr => ∃ (k : Nat) (q : Int), k ≤ s.size ∧ q = (k : Int) - 1 ∧ s9 = .int .i64 q ∧ Hid (∃ M Y, SpT (rnW l) s.data.toList s.size k M Y ∧ SpW wr G1 G2 M Y) ∧ Hid (Below n0 w wr)) (fun s9 _ => (RowKit.intOf s9 + 1).toNat)
  case atStart => exact ⟨s.size, (s.size : Int) - 1, Nat.le_refl _, rfl, by go_num, Lib.hid ⟨_, _, HST.out, S3.out⟩, B3⟩
  case round =>
    obtain ⟨k, q, hk, hq, rfl, HT, HB⟩ := hrel
    clear hm1 hm2 gm gf B3 S3
    rcases k with _ | k
    · obtain rfl : q = -1 := by omega
      obtain ⟨M, Y, ht, hw⟩ := HT.out
      have HBF : Hid (Below w.heap.size w wr) := Lib.hid (HN0.out.symm ▸ HB.out)
      rcases HEND.out M Y ht with ⟨e1, e2, e3⟩ | ⟨e1, e2, e3⟩
      · have g0 := hw.made_at e1
        subst e2 e3
        clear ht hw e1 hq
        go_wp2
        go_ret2
        exact ⟨_, rfl, GRuns.nil_ _ _ _, HBF.out⟩
      · have g0 := hw.made_at e1
        obtain ⟨v0, g1, r0⟩ := hw.ways_at e3
        have R0 := Lib.hid r0
        subst e2
        clear ht hw e1 e3 r0 hq
        go_wp2
        go_ret2
        exact ⟨_, rfl, R0.out, HBF.out⟩
    · obtain rfl : q = (k : Int) := by omega
      have k1 : (0 : Int) ≤ (k : Int) := by omega
      have HR0 : Hid (∃ M Y, SpR (rnW l) s.data.toList s.size k (f k 0) M Y ∧ SpW wr G1 G2 M Y) := by
        obtain ⟨M, Y, ht, hw⟩ := HT.out
        exact Lib.hid ⟨M, Y, by rw [HF0.out]; exact ht.look, hw⟩
      clear HT hq
      go_wp2
      go_loopw [39] (fun s39 wr' => ∃ j : Nat, j ≤ n ∧ s39 = .int .i64 (j : Int) ∧ Hid (∃ M Y, SpR (rnW l) s.data.toList s.size k (f k j) M Y ∧ SpW wr' G1 G2 M Y) ∧ Hid (Below n0 w wr')) (fun s39 _ => n - (RowKit.intOf s39).toNat)
      case atStart => exact ⟨0, Nat.zero_le _, rfl, HR0, HB⟩
      case round =>
        obtain ⟨j, hjn, rfl, HRj, BJ⟩ := hrel
        clear HR0 HB
        by_cases hj : j < n
        · have j1 : (j : Int) < (n : Int) := by omega
          obtain ⟨⟨p1, p2⟩, hp⟩ : ∃ p, l[j]? = some p := ⟨_, List.getElem?_eq_getElem (by rw [HNN.out]; exact hj)⟩
          obtain ⟨b, o, rfl, _, hc⟩ := (HU.out.below (HN0.out.symm ▸ BJ.out)).cells HNN.out (by omega)
          obtain ⟨g0, g1⟩ := wrd_cells hc hp
          simp only at g0 g1
          have hbj : n0 ≤ wr.heap.size := by have := BJ.out.size; have := HN0.out; omega
          have hal := bel_one wr (.cells #[.string p1, .int .i64 p2] 72)
          obtain ⟨c0, c1⟩ := cells2_new wr (.string p1) (.int .i64 p2) 72
          have hst := HFS.out k j p1 p2 hp
          have hz1 := HWS.out _ (List.mem_of_getElem? hp)
          simp only at hz1
          have hpn := @stp_no (rnW l) s p1 k p2 (f k j)
          have hpy := @stp_yes (rnW l) s p1 k p2 (f k j)
          have hpl := @pre_at_len s p1 k (by omega)
          rw [← hst] at hpn hpy
          have cb := fun w => ubegin_any (s.extract k s.size) p1 w
          obtain ⟨pb, hpb⟩ : ∃ z, preK p1 (s.extract k s.size) = z := ⟨_, rfl⟩
          obtain ⟨mb, hmb⟩ : ∃ z, mdB (rnW l) (s.data.toList.drop (k + p1.size)) = z := ⟨_, rfl⟩
          rw [hpb, hmb] at hpn hpy
          rw [hpb] at hpl
          simp only [hpb] at cb
          obtain ⟨V1, hV1⟩ : ∃ z, wr.alloc (.cells #[.string p1, .int .i64 p2] 72) = z := ⟨_, rfl⟩
          obtain ⟨B1, hB1⟩ : ∃ z, wr.heap.size = z := ⟨_, rfl⟩
          rw [hV1] at hal c0 c1
          rw [hB1] at c0 c1
          have BV : Hid (∀ q, Below n0 w (V1.drewN q)) := Lib.hid (fun q => below_draws (BJ.out.trans (hal.mono hbj)) q)
          have HR1 : Hid (∀ q, Hid (∃ M Y, SpR (rnW l) s.data.toList s.size k (f k j) M Y ∧ SpW (V1.drewN q) G1 G2 M Y)) := by
            obtain ⟨M, Y, h1, h2⟩ := HRj.out
            exact Lib.hid fun q => Lib.hid ⟨M, Y, h1, h2.below (below_draws hal q)⟩
          have CB := Lib.hid cb; have HV1 := Lib.hid hV1; have HB1 := Lib.hid hB1; have HPN := Lib.hid hpn; have HPY := Lib.hid hpy; have HPL := Lib.hid hpl; have HMB := Lib.hid hmb
          clear hc hp hst hpn hpy hpl cb hpb hmb hV1 hB1 hal HRj BJ hbj
          cases pb
          · have HN : Hid (f k (j + 1) = f k j) := Lib.hid (HPN.out (.inl rfl))
            go_wp2_with (first | (rw [HV1.out, HB1.out]))
            go_quiet ((go_at_call 57; exact Calls.quiet_of_same (CB.out _)))
            go_wp2
            exact ⟨⟨j + 1, by omega, by go_num, by rw [HN.out]; exact HR1.out _, Lib.hid (BV.out _)⟩, by simp [RowKit.intOf]; omega⟩
          · have hle := HPL.out rfl
            have hi1 : ((k : Int) + (p1.size : Int)).toNat = k + p1.size := by omega
            have hi2 : (k : Int) + (p1.size : Int) < (P : Int) := by omega
            have hi3 : (0 : Int) ≤ (k : Int) + (p1.size : Int) := by omega
            obtain ⟨M, Y, hr, hw⟩ := HR1.out 0
            obtain ⟨x1, x2⟩ := hr.hi (k + p1.size) (by omega) hle
            rw [HMB.out] at x1
            have m1 := hw.made_at x1
            obtain ⟨vy, m2, r2⟩ := hw.ways_at x2
            obtain ⟨m3, m4⟩ := hr.cur
            have m5 := hw.made_at m3
            obtain ⟨vc, m6, r6⟩ := hw.ways_at m4
            change V1.cell? ⟨G2, k + p1.size, none⟩ = some (.bool mb) at m1
            cases mb
            · have HN : Hid (f k (j + 1) = f k j) := Lib.hid (HPN.out (.inr rfl))
              clear m2 m3 m4 m5 m6 r2 r6 x1 x2 hr hw
              go_wp2_with (first | (rw [HV1.out, HB1.out]))
              go_quiet ((go_at_call 57; exact Calls.quiet_of_same (CB.out _)))
              go_wp2
              exact ⟨⟨j + 1, by omega, by go_num, by rw [HN.out]; exact HR1.out _, Lib.hid (BV.out _)⟩, by simp [RowKit.intOf]; omega⟩
            · have hst := HPY.out rfl rfl
              obtain ⟨y, hy⟩ : ∃ z, wyT (rnW l) (s.data.toList.drop (k + p1.size)) = z := ⟨_, rfl⟩
              have hyl := HWF.out (k + p1.size)
              rw [hy] at hst r2 hyl
              have HST1 := Lib.hid hst
              obtain ⟨Ay, cy, ey⟩ := r2.slice
              subst ey
              obtain ⟨yl, hyn⟩ : ∃ z, y.length = z := ⟨_, rfl⟩
              rw [hyn] at m2 r2 hyl
              change V1.cell? ⟨G1, k + p1.size, none⟩ = _ at m2
              have R2 : Hid (GRuns txCell 1 V1 (.slice Ay yl cy) y) := Lib.hid r2; have HYN := Lib.hid hyn
              clear m3 m4 m5 m6 r2 r6 x1 x2 hr hw hst hy hyn vc
              go_wp2_with (first | (rw [HV1.out, HB1.out]))
              go_quiet ((go_at_call 57; exact Calls.quiet_of_same (CB.out _)))
              obtain ⟨V2, hV2⟩ : ∃ z, V1.drewN nq = z := ⟨_, rfl⟩
              have c0' : V2.cell? ⟨B1, 0, none⟩ = some (.string p1) := by rw [← hV2]; exact c0
              have m2' : V2.cell? ⟨G1, k + p1.size, none⟩ = some (.slice Ay yl cy) := by rw [← hV2]; exact m2
              have R2' : Hid (GRuns txCell 1 V2 (.slice Ay yl cy) y) := Lib.hid (by have := R2.out.below (below_draws (Below.refl _ _) nq); rw [hV2] at this; exact this)
              have B2' : Hid (Below n0 w V2) := Lib.hid (by have := BV.out nq; rw [hV2] at this; exact this)
              have HR2 : Hid (∃ M Y, SpR (rnW l) s.data.toList s.size k (f k j) M Y ∧ SpW V2 G1 G2 M Y) := by have := HR1.out nq; rw [hV2] at this; exact this
              rw [hV2]
              clear hV2 c0 c1 m1 m2 R2 BV HR1 g0 g1
              have hsz2 : V2.drew.heap.size = V2.heap.size := rfl
              have hown0 := tx_lit V2.drew p1
              have hra := (R2'.out.below ((Below.refl V2.heap.size V2).drew)).below (bel_one V2.drew (.cells #[.string p1] 9))
              obtain ⟨v9, w9, hrun, h2, h3, h4⟩ := append_many (P := Tryd.prog) tx_len tx_one info_tx rfl (by decide) (by decide) Tryd.underlying61 _ V2.drew.heap.size _ 1 _ hown0 _ y hra (bel_one V2.drew (.cells #[.string p1] 9)).size (by rw [HYN.out]; omega)
              have hb9 : Below V2.drew.heap.size V2.drew w9 := ((Below.refl _ V2.drew).alloc (Nat.le_refl _) _).grown h3 (by simp) (fun k hk => (hown0.lt k hk).1)
              have r9 := GRuns.of_own (l := p1 :: y) tx_len (by rw [List.length_cons]; omega) h2
              have hb9' : Below V2.heap.size V2 w9 := ((Below.refl V2.heap.size V2).drew).trans hb9
              obtain ⟨A9, q9, e9⟩ := r9.slice
              rw [List.length_cons, HYN.out] at e9
              subst e9
              have HRUN := Lib.hid hrun
              have R9 := Lib.hid r9
              have B9 : Hid (Below n0 w w9) := Lib.hid (B2'.out.trans (hb9'.mono (by have := B2'.out.size; have := HN0.out; omega)))
              have HR9 : Hid (∃ M Y, SpR (rnW l) s.data.toList s.size k (f k j) M Y ∧ SpW w9 G1 G2 M Y) := by
                obtain ⟨M, Y, h1, h2⟩ := HR2.out
                exact Lib.hid ⟨M, Y, h1, h2.below hb9'⟩
              have c9 : w9.cell? ⟨B1, 0, none⟩ = some (.string p1) := cell_keep hb9' c0'
              have m9 : w9.cell? ⟨G1, k + p1.size, none⟩ = some (.slice Ay yl cy) := cell_keep hb9' m2'
              clear hown0 hra hrun h2 h3 h4 hb9 hb9' r9 hsz2
              obtain ⟨z, hz⟩ : ∃ z, k + p1.size = z := ⟨_, rfl⟩
              rw [hz] at m2' m9 hle
              have hwk : IntKind.i64.wrap ((k : Int) + (p1.size : Int)) = (z : Int) := by rw [IntKind.wrap_i64]; omega
              have hz1 : (z : Int) < (P : Int) := by omega
              have hz0 : (0 : Int) ≤ (z : Int) := by omega
              have hz2 : z < P := by omega
              have hz3 : (z : Int) < (s.size : Int) + 1 := by omega
              clear hi1 hi2 hi3 hz
              go_wp2
              apply z_region_at (W := w9)
              · go_region_held3 (fun wx => wx.cell? ⟨B1, 0, none⟩ = some (.string p1) ∧ wx.cell? ⟨G1, z, none⟩ = some (.slice Ay yl cy)) (first | go_keep) (first | (refine xstep_append ?_ (.tmp 63) (.tmp 71) 61 _ _ _ _ ?_ HRUN.out ?_ ?_ ?_; rfl; rfl; go_simp; go_simp))
                all_goals exact ⟨rfl, rfl⟩
              obtain ⟨M, Y, hr, hw⟩ := HR9.out
              obtain ⟨m3, m4⟩ := hr.cur
              have m5 := hw.made_at m3
              obtain ⟨vc, m6, r6⟩ := hw.ways_at m4
              have hik : (k : Int) < (P : Int) := by omega
              have hML : k < M.length := by rw [hr.lm]; omega
              have hYL : k < Y.length := by rw [hr.ly]; omega
              have hyl1 : (p1 :: y).length ≤ 1000 := by rw [List.length_cons, HYN.out]; omega
              have hst := HST1.out
              have hfl := HFL.out k j
              obtain ⟨acc, hacc⟩ : ∃ z, f k j = z := ⟨_, rfl⟩
              rw [hacc] at hst hr m5 r6 hfl
              have hup := hr.upd (by omega) (p1 :: y)
              have HRC := Lib.hid hr
              have HML := Lib.hid hML; have HYL := Lib.hid hYL; have HUP := Lib.hid hup
              clear hr m3 m4 hacc hML hYL hup HR9 HR2 c0' m2' c9 m9 HRUN R2' HPN HPY HPL
              cases acc with
              | none =>
                have HS1 : Hid (f k (j + 1) = some (p1 :: y)) := Lib.hid hst
                obtain ⟨s1, ⟨t2, s2⟩, s3, t4, s4⟩ := hw.soft HNE.out HML.out HYL.out
                have FIN : Hid (∃ M Y, SpR (rnW l) s.data.toList s.size k (f k (j + 1)) M Y ∧ SpW ((w9.setCell ⟨G2, k, none⟩ (.bool true)).setCell ⟨G1, k, none⟩ (.slice A9 (yl + 1) q9)) G1 G2 M Y) := Lib.hid ⟨_, _, by rw [HS1.out]; exact HUP.out, hw.store HNE.out k R9.out⟩
                have BF : Hid (Below n0 w ((w9.setCell ⟨G2, k, none⟩ (.bool true)).setCell ⟨G1, k, none⟩ (.slice A9 (yl + 1) q9))) := Lib.hid ((B9.out.setCell (by exact HGB.out.2) _).setCell (by exact HGB.out.1) _)
                change w9.cell? ⟨G2, k, none⟩ = some (.bool false) at m5
                clear hw hst hfl r6 s2
                go_wp2
                exact ⟨⟨j + 1, by omega, by go_num, FIN, BF⟩, by simp [RowKit.intOf]; omega⟩
              | some a =>
                simp only at hst
                change w9.cell? ⟨G2, k, none⟩ = some (.bool true) at m5
                have cbt := ubetter_any (.slice A9 (yl + 1) q9) vc (p1 :: y) a w9 R9.out r6 hyl1 (by have := hfl a rfl; omega)
                obtain ⟨bb, hbb⟩ : ∃ z, betB (p1 :: y) a = z := ⟨_, rfl⟩
                rw [hbb] at cbt hst
                have HW9 := Lib.hid hw; have CBT := Lib.hid cbt
                clear hw cbt hbb r6 hfl
                cases bb
                · have HS1 : Hid (f k (j + 1) = some a) := Lib.hid hst
                  clear hst
                  go_wp2_with fail
                  refine CBT.out.mono ?_
                  rintro e w10 ⟨rfl, hb10⟩
                  have FIN : Hid (∃ M Y, SpR (rnW l) s.data.toList s.size k (f k (j + 1)) M Y ∧ SpW w10 G1 G2 M Y) := Lib.hid ⟨_, _, by rw [HS1.out]; exact HRC.out, HW9.out.below hb10⟩
                  have BF : Hid (Below n0 w w10) := Lib.hid (B9.out.trans (hb10.mono (by have := B9.out.size; have := HN0.out; omega)))
                  clear hb10
                  go_wp2
                  exact ⟨⟨j + 1, by omega, by go_num, FIN, BF⟩, by simp [RowKit.intOf]; omega⟩
                · have HS1 : Hid (f k (j + 1) = some (p1 :: y)) := Lib.hid hst
                  clear hst
                  go_wp2_with fail
                  refine CBT.out.mono ?_
                  rintro e w10 ⟨rfl, hb10⟩
                  have hw := HW9.out.below hb10
                  have r10 := R9.out.below hb10
                  obtain ⟨s1, ⟨t2, s2⟩, s3, t4, s4⟩ := hw.soft HNE.out HML.out HYL.out
                  have FIN : Hid (∃ M Y, SpR (rnW l) s.data.toList s.size k (f k (j + 1)) M Y ∧ SpW ((w10.setCell ⟨G2, k, none⟩ (.bool true)).setCell ⟨G1, k, none⟩ (.slice A9 (yl + 1) q9)) G1 G2 M Y) := Lib.hid ⟨_, _, by rw [HS1.out]; exact HUP.out, hw.store HNE.out k r10⟩
                  have BF : Hid (Below n0 w ((w10.setCell ⟨G2, k, none⟩ (.bool true)).setCell ⟨G1, k, none⟩ (.slice A9 (yl + 1) q9))) := Lib.hid (((B9.out.trans (hb10.mono (by have := B9.out.size; have := HN0.out; omega))).setCell (by exact HGB.out.2) _).setCell (by exact HGB.out.1) _)
                  clear hw r10 hb10
                  go_wp2
                  exact ⟨⟨j + 1, by omega, by go_num, FIN, BF⟩, by simp [RowKit.intOf]; omega⟩
        · obtain rfl : j = n := by omega
          obtain ⟨M, Y, h1, h2⟩ := HRj.out
          have HE : Hid (∃ M Y, SpT (rnW l) s.data.toList s.size k M Y ∧ SpW wr G1 G2 M Y) := Lib.hid ⟨M, Y, h1.done (HFE.out k (by omega)), h2⟩
          clear h1 h2 HRj
          go_wp2
          exact ⟨⟨k, (k : Int) - 1, by omega, rfl, by go_num, HE, BJ⟩, by simp [RowKit.intOf]⟩
end Go.Proofs.YtljaibhhkjapmaaDoor

/- WalkCompletes, walked over what walk's functions and the document's own answer. -/
namespace Go.Proofs.YtljaibhhkjapmaaDoor
open Go.RowKit Go.Shelf
attribute [local go_sem] Oper.semAt_some
set_option linter.unusedSimpArgs false
set_option linter.unusedVariables false

theorem ustr_ne {a b : ByteArray} (h : a ≠ b) : (a.toList == b.toList) = false := by
  apply Bool.eq_false_iff.2
  intro hc
  exact h (key_ext (by rw [← Lib.toList_data, ← Lib.toList_data]; exact eq_of_beq hc))
set_option maxRecDepth 100000 in
set_option maxHeartbeats 4000000 in
theorem utexts_any (u v : Value) (x y : List ByteArray) (w : World) (hx : GRuns txCell 1 w u x) (hy : GRuns txCell 1 w v y) :
    Calls Tryd.prog 38 #[u, v] w fun e w' => e = .returned (.bool (decide (x = y))) ∧ Drawn w w' := by
  obtain ⟨A, c, rfl, hxc, ⟨hxm, _⟩, hxx⟩ := hx
  obtain ⟨B, d, rfl, hyc, ⟨hym, _⟩, hyy⟩ := hy
  unfold maxLen at hxm hym
  obtain ⟨n, hn⟩ : ∃ n, x.length = n := ⟨_, rfl⟩
  obtain ⟨m, hm⟩ : ∃ m, y.length = m := ⟨_, rfl⟩
  obtain ⟨res, hr⟩ : ∃ r, decide (x = y) = r := ⟨_, rfl⟩
  rw [hr]
  rw [hn] at hxc hxx ⊢
  rw [hm] at hyc hyy ⊢
  have Hn := Lib.hid hn; have Hm := Lib.hid hm; have HR := Lib.hid hr
  have HX := Lib.hid hxx; have HY := Lib.hid hyy
  clear hn hm hr hxx hyy
  by_cases hnm : n = m
  · subst hnm
    go_enter Tryd.func38, Tryd.ntmps38
    go_wp2
    go_loopg [13] n (fun g s13 wr => ∃ k q : Nat, k ≤ n ∧ n - k ≤ g ∧ s13 = .int .i64 k ∧ wr = w.drewN q ∧ Hid (x.take k = y.take k))
    case atStart => exact ⟨0, 0, Nat.zero_le _, by omega, rfl, rfl, Lib.hid (by simp)⟩
    case round =>
      obtain ⟨k, q, hkn, hg, rfl, rfl, HC⟩ := hrel
      by_cases h1 : k < n
      · obtain ⟨b, o, rfl, hb, hc1⟩ := HX.out (by omega)
        obtain ⟨b', o', rfl, hb', hc2⟩ := HY.out (by omega)
        obtain ⟨p1, hp⟩ : ∃ p, x[k]? = some p := ⟨_, List.getElem?_eq_getElem (by rw [Hn.out]; exact h1)⟩
        obtain ⟨q1, hq⟩ : ∃ p, y[k]? = some p := ⟨_, List.getElem?_eq_getElem (by rw [Hm.out]; exact h1)⟩
        have e1 := hc1 k _ hp 0 _ rfl
        have f1 := hc2 k _ hq 0 _ rfl
        simp only [Nat.mul_one, Nat.add_zero] at e1 f1
        clear hc1 hc2
        have NE : Hid (p1 ≠ q1 → x ≠ y) := Lib.hid (fun hne e => hne (by rw [e, hq] at hp; exact (Option.some.inj hp).symm))
        have ST : Hid (p1 = q1 → x.take (k + 1) = y.take (k + 1)) := Lib.hid (fun he => by rw [List.take_add_one, List.take_add_one, HC.out, hp, hq, he])
        clear hp hq
        have i1 : (k : Int) < (n : Int) := by omega
        by_cases hpq : p1 = q1
        · subst hpq
          go_wp2
          go_quiet (fail)
          go_wp2
          go_roundg (n - (k + 1))
          case measure => omega
          case rel => exact ⟨k + 1, _, by omega, by omega, by go_num, by first | rfl | rw [World.drewN_drewN], Lib.hid (ST.out (by first | rfl | trivial))⟩
        · have h1 : (p1.toList == q1.toList) = false := ustr_ne hpq
          have hno : x ≠ y := NE.out hpq
          have HNO := Lib.hid hno
          clear hno hpq
          go_wp2
          go_quiet (fail)
          go_wp2
          go_ret
          exact ⟨ret_bool (by rw [← HR.out]; symm; simpa using HNO.out), by first | exact Drawn.of2 _ _ _ | exact Drawn.of3 _ _ _ _⟩
      · obtain rfl : n = k := by omega
        go_wp2
        go_ret
        exact ⟨ret_bool (by rw [← HR.out, decide_eq_true (by
          have h1 := HC.out
          rw [show n = x.length from Hn.out.symm, List.take_length, Hn.out, ← Hm.out, List.take_length] at h1
          exact h1)]), Drawn.of _ _⟩
  · have h1 : ((n : Int) == (m : Int)) = false := by simp; omega
    go_enter Tryd.func38, Tryd.ntmps38
    go_wp2
    go_ret
    exact ⟨ret_bool (by rw [← HR.out]; symm; rw [decide_eq_false_iff_not]; rintro rfl; exact hnm (Hn.out.symm.trans Hm.out)), Drawn.refl _⟩
set_option maxRecDepth 100000 in
set_option maxHeartbeats 64000000 in
theorem walkCompletes_walk (u : Value) (l : List Wrd) (s : ByteArray) (kk : Int) (w : World) (h : Okw w) (hu : WRuns w u l) (hz : szMW l) (hs : s.size ≤ 140737488355328) :
    Calls Tryd.prog 5 #[u, .string s, .int .i64 kk] w (RetTrue w) := by
  have m1 := fun w hO hu => made_any u l s w hO hu hz (by omega)
  obtain ⟨X, hX⟩ : ∃ z, worS l = z := ⟨_, rfl⟩
  have HU := Lib.hid hu; have M1 := Lib.hid m1
  clear hu m1 hz
  go_enter Tryd.func5, Tryd.ntmps5
  go_wp2_with fail
  refine (alive11_any _ h).mono ?_
  rintro e w1 ⟨rfl, b1⟩
  have U1 := Lib.hid (HU.out.below b1); have K1 : Hid (Okw w1) := Lib.hid (h.below b1)
  have B1 := Lib.hid b1; clear b1
  go_wp2_with fail
  refine (M1.out _ K1.out U1.out).mono ?_
  rintro e w2 ⟨b2, hp⟩
  have K2 : Hid (Okw w2) := Lib.hid (K1.out.below b2); have B2 := Lib.hid (B1.out.trans (b2.mono B1.out.size))
  clear b2 M1
  rcases hp with rfl | ⟨d, v, rfl, hq, hd, hv⟩
  · go_wp2
    go_ret
    exact ⟨rfl, B2.out⟩
  rw [hX] at hq hd hv
  obtain ⟨hn, hx60, hs8, hzx⟩ := hq
  have cp := fun w' (hb : Below w2.heap.size w2 w') => ucomplete_any w' d X hn _ rfl (hd.below hb) s kk (K2.out.below hb) (by omega)
  have cr := fun w' (hb : Below w2.heap.size w2 w') => ucomplete_ref v X s kk w' (hv.below hb) (by omega) (by omega)
  have cs := fun w' (hb : Below w2.heap.size w2 w') => usplit_any w' d X hn _ rfl (hd.below hb) s (K2.out.below hb) (by omega)
  have ct := fun w' (hb : Below w2.heap.size w2 w') => usplit_ref v X hn s w' (hv.below hb) (by omega) (by omega)
  obtain ⟨pE, hpE⟩ : ∃ z, ucpE s kk = z := ⟨_, rfl⟩
  obtain ⟨pS, hpS⟩ : ∃ z, ucpS X s kk = z := ⟨_, rfl⟩
  obtain ⟨oE, hoE⟩ : ∃ z, uspE (rnW X) s.data.toList = z := ⟨_, rfl⟩
  obtain ⟨oS, hoS⟩ : ∃ z, uspS (rnW X) s.data.toList = z := ⟨_, rfl⟩
  simp only [hpE, hpS, hoE, hoS] at cp cr cs ct
  have CP := Lib.hid cp; have CR := Lib.hid cr; have CS := Lib.hid cs; have CT := Lib.hid ct
  clear cp cr cs ct hpE hpS hoE hoS hn hzx hd hv hX hs8 hx60 hs
  have n1 : (pE == pE) = true := beq_self_eq_true _
  have n2 : (oE == oE) = true := beq_self_eq_true _
  go_wp2_with fail
  refine (CP.out _ (Below.refl _ _)).mono ?_
  rintro e w3 ⟨v3, rfl, r3, b3⟩
  have B3 := Lib.hid b3; have R3 := Lib.hid r3
  clear b3 r3
  go_wp2_with fail
  refine (CR.out _ B3.out).mono ?_
  rintro e w4 ⟨v4, rfl, r4, b4⟩
  have B4 := Lib.hid (B3.out.trans (b4.mono B3.out.size)); have R4 := Lib.hid r4; have R34 := Lib.hid (R3.out.below b4)
  clear b4 r4 R3
  go_wp2_with fail
  refine (CS.out _ B4.out).mono ?_
  rintro e w5 ⟨v5, rfl, r5, b5⟩
  have B5 := Lib.hid (B4.out.trans (b5.mono B4.out.size)); have R5 := Lib.hid r5; have R35 := Lib.hid (R34.out.below b5); have R45 := Lib.hid (R4.out.below b5)
  clear b5 r5 R34 R4
  go_wp2_with fail
  refine (CT.out _ B5.out).mono ?_
  rintro e w6 ⟨v6, rfl, r6, b6⟩
  have hb6 := B5.out.trans (b6.mono B5.out.size)
  have B6 := Lib.hid (B2.out.trans (hb6.mono B2.out.size))
  have csm := refSame9_any v3 v4 pS pS w6 (R35.out.below b6) (R45.out.below b6)
  rw [decide_eq_true rfl] at csm
  have CSM := Lib.hid csm
  have ctx := fun w' (hb : Below w6.heap.size w6 w') => utexts_any v5 v6 oS oS w' ((R5.out.below b6).below hb) (r6.below hb)
  rw [decide_eq_true rfl] at ctx
  have CTX := Lib.hid ctx
  clear hb6 csm ctx b6 r6 R35 R45 R5
  go_wp2_with (first
    | (go_at_call 37; refine CSM.out.mono ?_; rintro e w7 ⟨rfl, nd, rfl⟩)
    | (go_at_call 38; refine (CTX.out _ (below_draws (Below.refl _ _) _)).mono ?_; rintro e w7 ⟨rfl, nd2, rfl⟩))
  go_ret
  exact ⟨rfl, by first | exact below_draws B6.out _ | exact below_draws (below_draws B6.out _) _⟩
end Go.Proofs.YtljaibhhkjapmaaDoor

/- What every law's proof needs around its walk: the arguments read as they did wherever old memory is kept; a world for the witness; what the listed tables give. -/
namespace Go.Proofs.YtljaibhhkjapmaaDoor
open Go.ChangeShapes Go.WideShapes Go.ChangeAt Go.RowKit Go.Shelf

theorem own : ownKnob Tryd.prog.godebug = none := by kernel_rfl
theorem laidOut : laidOutB Tryd.prog = true := by kernel_rfl

theorem trodAll_below {H : Type} {enc : TypeId × Value → H} {P : Program} (hl : laidOutB P = true) {W W' : World} (hb : Below W.heap.size W W') :
    ∀ (ts : List TypeId) (vs : List Value) (ds : List (DataW H)) (ps : List MemPlace), (∀ t ∈ ts, P.readableRec t = true ∧ t < P.types.size) → (∀ x ∈ ps, x.block < W.heap.size) →
      DataW.TrodAll enc P W 0 (fun _ => true) true ts vs ds ps → DataW.TrodAll enc P W' 0 (fun b => decide (b < W.heap.size)) true ts vs ds ps
  | [], vs, ds, ps, _, _, h => by
    obtain ⟨rfl, rfl, rfl⟩ := trodAll_nil h
    exact trodAll_mk0
  | t :: ts, vs, ds, ps, ht, hp, h => by
    obtain ⟨v0, vs0, d0, ds0, p0, q0, rfl, rfl, rfl, h0, r0⟩ := trodAll_cons h
    exact trodAll_cons_mk (Below.trod hl (ht t (by simp)).1 (ht t (by simp)).2 h0 hb (fun x hx => hp x (by simp [hx]))) (trodAll_below hl hb ts vs0 ds0 q0 (fun t' h' => ht t' (by simp [h'])) (fun x hx => hp x (by simp [hx])) r0)

theorem cells32 : Tryd.prog.cellsOf 21 = 1 := by kernel_rfl
set_option maxRecDepth 100000 in
/-- An argument of type []int32 reads as a list of numbers of that kind. -/
theorem runs_of_arg {H : Type} {enc : TypeId × Value → H} {W : World} {base : Nat} {v : Value} {d : DataW H} {p : List MemPlace} (hv : Value.okWide Tryd.prog W .any base 84 v) (h : DataW.Trod enc Tryd.prog W 0 (fun _ => true) true 84 v d p) :
    ∃ a : List Int, Runs W v a ∧ ∀ x ∈ a, -2147483648 ≤ x ∧ x ≤ 2147483647 := by
  obtain ⟨a0, len, cap, rfl⟩ := okWide_slice Tryd.underlying84 hv
  obtain ⟨fuel, hf⟩ := h
  rcases open_ints Tryd.underlying84 Tryd.underlying21 cells32 hf with ⟨hcs, _⟩ | ⟨a, len', cap', zs, hcs, _, hl, hm, hz, _, hcell, hwz⟩
  · have e : Value.slice a0 len cap = .slice none 0 0 := by simpa [Value.cells] using hcs
    rw [e]
    exact ⟨[], Runs.nil_ _, by simp⟩
  · have e : Value.slice a0 len cap = .slice (some a) len' cap' := by simpa [Value.cells] using hcs
    rw [e]
    simp only [if_true] at hz
    have hlen : (zs.take len').length = len' := by rw [List.length_take]; omega
    refine ⟨zs.take len', ⟨some a, cap', by rw [hlen], by omega, ⟨hm, fun h => by cases h⟩, fun h0 => ?_⟩, fun x hx => bounds_i32 (hwz x (List.mem_of_mem_take hx))⟩
    obtain ⟨b, off, rfl, hc⟩ := ints_at hcell (by omega)
    have h00 := hc 0 (by omega)
    refine ⟨b, off, rfl, ?_, fun j hj => ?_⟩
    · rcases Nat.lt_or_ge b W.heap.size with h' | h'
      · exact h'
      · simp [World.cell?, Array.getElem?_eq_none h'] at h00
    · rw [hc j (by omega)]
      simp only [List.getD_eq_getElem?_getD, List.getElem?_take]
      rw [if_pos (by omega)]

/-- A law that answered true and changed nothing old has its row's post. -/
theorem law_post {H : Type} {enc : TypeId × Value → H} {P : Program} {f : Func} {s : ChangeSpec} {W W' : World} {args : Array Value} {ds gs : List (DataW H)} {before : List MemPlace} {tb : TypeId}
    (hl : laidOutB P = true) (hts : ∀ t ∈ f.params.toList, P.readableRec t = true ∧ t < P.types.size) (hW : DataW.Whole enc P f.params.toList s.vars false W args.toList ds gs before) (hb : Below W.heap.size W W')
    (hbool : P.underlying tb = some .bool) (hrt : f.resultTypes = #[tb]) (hs : s.vars = []) (h1 : (s.fn H (ds ++ gs)).results = [.lit (.bool true)]) (h2 : (s.fn H (ds ++ gs)).args = ds) (h3 : (s.fn H (ds ++ gs)).vars = []) :
    s.post enc P f false true false false W args (.bool true) W' := by
  have hW' := hW
  obtain ⟨p, q, hA, hV, hbef, _, _⟩ := hW
  have hlt : ∀ x ∈ p, x.block < W.heap.size := fun x hx => hW'.lt x (by rw [hbef]; simp [hx])
  refine ⟨ds, gs, before, [], p, [], hW', ?_, ?_, ?_, hb.frame _, fun h => by cases h⟩
  · rw [hrt, h1]; exact trodAll_cons_mk (shut_bool hbool _) trodAll_mk0
  · rw [h2]; exact trodAll_below hl hb _ _ _ _ hts hlt hA
  · rw [hs, h3]; rfl

/-- The list of variables that every row of this seat bears. -/
def laidList : List (String × DataW Unit) := [("unicode/utf8.acceptRanges", Rows.laid_unicode_utf8_acceptRanges), ("unicode/utf8.first", Rows.laid_unicode_utf8_first)]
theorem accept_same : (Rows.laid_unicode_utf8_acceptRanges : DataW Unit) = Lib.acceptData := by kernel_rfl
theorem first_same : Rows.laid_unicode_utf8_first = Lib.firstData := by kernel_rfl

theorem okw_of_laid {W : World} (hL : laidMetH Tryd.prog laidList W) : Okw W := by
  have h : laidMet Tryd.prog laidList W := hL
  have ht : Tabs W := utf8Tabs_of_readsT (U8Types.of260 Tryd.lays260) ⟨by kernel_rfl, by kernel_rfl, by kernel_rfl, by kernel_rfl, by kernel_rfl, by kernel_rfl, by kernel_rfl⟩
    (by have := Lib.laidMet.reads h (n := "unicode/utf8.first") (d := Rows.laid_unicode_utf8_first) (by simp [laidList]); rwa [first_same] at this)
    (by have := Lib.laidMet.reads h (n := "unicode/utf8.acceptRanges") (d := Rows.laid_unicode_utf8_acceptRanges) (by simp [laidList]); rwa [accept_same] at this)
  have lt : ∀ {a : Addr} {v : Value}, W.cell? a = some v → a.block < W.heap.size := fun {a v} hc => by
    rcases Nat.lt_or_ge a.block W.heap.size with h' | h'
    · exact h'
    · simp [World.cell?, Array.getElem?_eq_none h'] at hc
  exact ⟨ht, lt (ht.1 0 (by decide)), lt (ht.2 0 (by decide)).1⟩

def putCells (cs : Array Value) : Obj → Obj
  | .cells _ t frozen => .cells cs t frozen
  | o => o
/-- A world for the witness: the settled one, the two tables as their initialisers lay them. -/
noncomputable def laidWorld (os : Os) : World :=
  { World.holding Tryd.prog os ⟨#[], #[], []⟩ with heap := ((World.holding Tryd.prog os ⟨#[], #[], []⟩).heap.modify 1 (putCells (Lib.firstTab.map fun z => Value.int .u8 z).toArray)).modify 2 (putCells ((List.range 16).flatMap fun i => [Value.int .u8 (Lib.accLo i), Value.int .u8 (Lib.accHi i)]).toArray) }
theorem laid_met (os : Os) (args : Array Value) : laidMet Tryd.prog laidList ((laidWorld os).forCall (fun _ _ => 0) ⟨#[], args, []⟩).memory :=
  laidMet_of_run' 8 (by kernel_rfl) (by kernel_rfl)
end Go.Proofs.YtljaibhhkjapmaaDoor

