/- Texts that several proofs of this seat share, one behind the other: RefDecode XRow XBestP XLays XSort XRef XRefB. -/
import Derived.Test.YtnjhbblhlgpgdaaDoorPk3
import Derived.Test.YtnjhbblhlgpgdaaDoorPk2
import Derived.Lib.SliceRun
import Derived.Deep.RegionLaw
import Derived.Deep.RegionHeld3
import Derived.Test.YtnjhbblhlgpgdaaDoorShelf2
import Derived.Shelf.SlSortCmp.QuietGrown
import Derived.Shelf.SlSortCmp.WholeK
import Derived.Sort.OwnSorted
import Derived.Shelf.SlSortCmp.NoneTotal
/- errataref01.Decode, Letters, Token: the document's answers, for every string. -/
namespace Go.Proofs.YtnjhbblhlgpgdaaDoor
open Go.RowKit Go.Shelf

theorem own_below {w w' : World} {base : Nat} {e : TypeId} {size n : Nat} {v : Value} {xs : List Value} (h : w.ownsRow base e size v n xs) (hb : Below w.heap.size w w') : w'.ownsRow base e size v n xs :=
  h.kept (grown_none hb) (by cases hv : v.ownBlock with
    | none => exact .inl rfl
    | some g => exact .inr (by simp))
theorem own_block {w : World} {base : Nat} {e : TypeId} {size n : Nat} {v : Value} {xs : List Value} (h : w.ownsRow base e size v n xs) : ∀ g, v.ownBlock = some g → base ≤ g := by
  intro g hg
  rcases h.2 with ⟨rfl, _⟩ | ⟨g', cap, cur, rfl, hb, _⟩
  · simp [Value.ownBlock] at hg
  · obtain rfl : g' = g := by simpa [Value.ownBlock] using hg
    exact hb
/-- The length of a string in a slot. -/
def strLen : Value → Nat | .string t => t.size | _ => 0

set_option maxRecDepth 100000 in
set_option maxHeartbeats 2000000 in
theorem refDecode_any (s : ByteArray) (w : World) (hs : s.size * 4 ≤ 140737488355328) :
    Calls Tryd.prog 38 #[.string s] w (DecPost s w) := by
  obtain ⟨L, hL⟩ : ∃ L, s.data.toList = L := ⟨_, rfl⟩
  have hLl : L.length = s.size := by rw [← hL, Lib.size_eq]
  have HL := Lib.hid hL; clear hL
  clear hLl
  go_enter Tryd.func38, Tryd.ntmps38
  go_wp2
  go_loopw [0, 4] (fun s0 s4 wr => ∃ (k : Nat) (t : ByteArray) (pre : List Int), s0 = .string t ∧ k + t.size ≤ s.size ∧ pre.length ≤ k ∧ Hid (t.data.toList = L.drop k) ∧ wr.ownsRow w.heap.size 21 1 s4 pre.length (pre.map (Value.int .i32)) ∧ Below w.heap.size w wr ∧ Hid (items L = pre ++ items (L.drop k)) ∧ Hid (Lib.validD L = Lib.validD (L.drop k))) (fun s0 _ _ => strLen s0)
  case atStart => exact ⟨0, s, [], rfl, by omega, by simp, Lib.hid (by rw [HL.out]; simp), World.ownsRow_nil _ _ _ _, Below.refl _ _, Lib.hid (by simp), Lib.hid (by simp)⟩
  case round =>
    obtain ⟨k, t, pre, rfl, hkt, hpk, HT, hrow, hB, HI, HV⟩ := hrel
    by_cases hpos : 0 < t.size
    · have C := Lib.hid (first_any t wr (by unfold maxLen; omega) hpos)
      have hne : L.drop k ≠ [] := by
        intro e
        have h1 := HT.out
        rw [e] at h1
        have h2 := Lib.size_eq t
        rw [h1, List.length_nil] at h2; omega
      have hst := items_step _ hne
      have hvt := valid_step _ hne
      rw [HT.out] at C
      have hp1 : (0 : Int) < (t.size : Int) := by omega
      cases hb : badB (L.drop k)
      · have hle := Lib.decodeL_le _ hne
        have hwd := Lib.decodeL_width (L.drop k)
        have hle2 : (Lib.decodeL (L.drop k)).2 ≤ t.size := by rw [Lib.size_eq, HT.out]; exact hle
        rw [hb] at hst hvt
        simp only [Bool.false_eq_true, if_false, List.drop_drop] at hst hvt
        have e1 : firstR (L.drop k) = ((Lib.decodeL (L.drop k)).1 : Int) := by simp [firstR, hb]
        have e2 : firstN (L.drop k) = (Lib.decodeL (L.drop k)).2 := by simp [firstN, hb]
        rw [e1, e2] at C
        obtain ⟨R, hR⟩ : ∃ R, (Lib.decodeL (L.drop k)).1 = R := ⟨_, rfl⟩
        obtain ⟨K, hK⟩ : ∃ K, (Lib.decodeL (L.drop k)).2 = K := ⟨_, rfl⟩
        rw [hR, hK] at C hst
        rw [hK] at hvt hle2 hwd
        have HS := Lib.hid hst
        have HVT := Lib.hid hvt
        clear hst hvt e1 e2 hb hle hne hR hK
        have hK0 : ((K : Int) == 0) = false := by simp; omega
        go_wp2_with fail
        refine C.out.mono ?_
        rintro e w1 ⟨rfl, hb1⟩
        have hrow1 := own_below hrow hb1
        have hB1 : Below w.heap.size w w1 := hB.trans (hb1.mono hB.size)
        have hBa : Below w1.heap.size w1 (w1.alloc (.cells #[.int .i32 (R : Int)] 21)) := (Below.refl _ _).alloc (Nat.le_refl _) _
        obtain ⟨v2, w2, hrun, hown, hg, _⟩ := append_runs _ w.heap.size _ _ _ (own_below hrow1 hBa) _ [(R : Int)] (runs_lit w1 R) (Nat.le_trans hB1.size hBa.size) (by simp; omega)
        have hB2 : Below w.heap.size w w2 := (hB1.trans (hBa.mono hB1.size)).grown hg (Nat.le_trans hB1.size hBa.size) (own_block hrow)
        have HR := Lib.hid hrun
        clear hrun
        have hsl : (K : Int) ≤ (t.size : Int) := by omega
        go_wp2_with (at_builtin; refine wpList_append_run (.tmp 17) (.tmp 19) 63 _ _ _ _ HR.out rfl rfl rfl rfl ?_)
        go_roundw
        case rel =>
          refine ⟨k + K, t.extract K t.size, pre ++ [(R : Int)], rfl, by simp; omega, by simp; omega, Lib.hid (by rw [Lib.extract_to_end, HT.out, List.drop_drop]), by simpa using hown, hB2, Lib.hid (by rw [HI.out, HS.out]; simp), Lib.hid (by rw [HV.out, HVT.out])⟩
        case measure => simp [strLen]; omega
      · rw [hb] at hst hvt
        simp only [if_true] at hst hvt
        have e1 : firstR (L.drop k) = 0 := by simp [firstR, hb]
        have e2 : firstN (L.drop k) = 0 := by simp [firstN, hb]
        rw [e1, e2] at C
        have HVT := Lib.hid hvt
        clear hst hvt e1 e2 hb hne
        go_wp2_with (go_at_call 60; refine C.out.mono ?_; rintro e w1 ⟨rfl, hb1⟩)
        go_ret2
        unfold DecPost
        rw [HL.out, HV.out, HVT.out]
        exact ⟨_, rfl, World.ownsRow_nil _ _ _ _, hB.trans (hb1.mono hB.size)⟩
    · have hz : t.size = 0 := by omega
      have hdr : L.drop k = [] := by
        have h1 := HT.out
        have h2 := Lib.size_eq t
        rw [h1, hz] at h2
        exact List.eq_nil_of_length_eq_zero h2.symm
      have HD := Lib.hid hdr
      have hp1 : ¬ (0 : Int) < (t.size : Int) := by omega
      clear hdr
      go_wp2
      go_ret2
      unfold DecPost
      rw [HL.out, HV.out, HI.out, HD.out, Lib.validD_nil, items_nil, List.append_nil]
      exact ⟨_, rfl, hrow, hB⟩

theorem refDecode_runs (s : ByteArray) (w : World) (hs : s.size * 4 ≤ 140737488355328) :
    Calls Tryd.prog 38 #[.string s] w fun e w' => ∃ A c, e = .returned (.tuple #[.slice A (decRunes s.data.toList).length c, .int .i64 (decErr s.data.toList)]) ∧ Runs w' (.slice A (decRunes s.data.toList).length c) (decRunes s.data.toList) ∧ Below w.heap.size w w' := by
  refine (refDecode_any s w hs).mono ?_
  rintro e w' ⟨v, rfl, hrow, hb⟩
  have hr : Runs w' v (decRunes s.data.toList) := Runs.of_own hrow
  have hr' := hr
  obtain ⟨A, c, rfl, _⟩ := hr'
  exact ⟨A, c, rfl, hr, hb⟩

theorem letters_bad (l : List UInt8) (h : Lib.validD l = false) : lettersB l = false := by
  have hn : ¬ ∀ x ∈ items l, x ≠ -1 := fun hh => by rw [(items_valid l).1 hh] at h; cases h
  have : ∃ x ∈ items l, x = -1 := by
    apply Classical.byContradiction
    intro hc
    exact hn (fun x hx e => hc ⟨x, hx, e⟩)
  obtain ⟨x, hx, rfl⟩ := this
  unfold lettersB
  rw [Bool.and_eq_false_iff]; right
  rw [List.all_eq_false]
  exact ⟨-1, hx, by decide⟩
theorem letters_good (l : List UInt8) : lettersB l = (decide (0 < (items l).length) && (items l).all letterB) := by
  unfold lettersB
  congr 1
  cases h : l with
  | nil => rfl
  | cons a t =>
    have : (items (a :: t)).length ≠ 0 := fun e => by
      have := (items_eq_nil (a :: t)).1 (List.eq_nil_of_length_eq_zero e); cases this
    simp; omega
theorem all_take_letters (xs : List Int) (k : Nat) (h : k < xs.length) : (xs.take (k + 1)).all letterB = ((xs.take k).all letterB && letterB (xs.getD k 0)) := by
  rw [List.take_succ_eq_append_getElem h, List.all_append, List.getD_eq_getElem?_getD, List.getElem?_eq_getElem h]
  simp
theorem all_no_letters (xs : List Int) (k : Nat) (h : k < xs.length) (hv : letterB (xs.getD k 0) = false) : xs.all letterB = false := by
  rw [List.all_eq_false]
  exact ⟨xs.getD k 0, by simp [List.getD_eq_getElem?_getD, h], fun h' => by rw [hv] at h'; cases h'⟩


set_option maxRecDepth 100000 in
set_option maxHeartbeats 1000000 in
theorem refToken_any (s : ByteArray) (w : World) (hs : s.size * 4 ≤ 140737488355328) :
    Calls Tryd.prog 101 #[.string s] w fun e w' => ∃ A c, e = .returned (.tuple #[.slice A (tokRunes s.data.toList).length c, .int .i64 (tokErr s.data.toList)]) ∧ Runs w' (.slice A (tokRunes s.data.toList).length c) (tokRunes s.data.toList) ∧ Below w.heap.size w w' := by
  have c := refDecode_runs s w hs
  cases hv : Lib.validD s.data.toList
  · have e1 : decErr s.data.toList = 3 := by simp [decErr, hv]
    have e2 : decRunes s.data.toList = [] := by simp [decRunes, hv]
    have t1 : tokErr s.data.toList = 3 := by simp [tokErr, hv]
    have t2 : tokRunes s.data.toList = [] := by simp [tokRunes, t1]
    rw [e1, e2] at c
    rw [t1, t2]
    have C := Lib.hid c
    clear c e1 e2 t1 t2 hv
    go_enter Tryd.func101, Tryd.ntmps101
    go_wp2_with fail
    refine C.out.mono ?_
    rintro e w' ⟨A, c, rfl, hr, hb⟩
    go_wp2
    go_ret2
    exact ⟨none, 0, rfl, Runs.nil_ _, hb⟩
  · have e1 : decErr s.data.toList = 0 := by simp [decErr, hv]
    have e2 : decRunes s.data.toList = items s.data.toList := by simp [decRunes, hv]
    rw [e1, e2] at c
    have t1 : tokErr s.data.toList = if (items s.data.toList).length = 0 then 4 else if 64 < (items s.data.toList).length then 5 else 0 := by simp [tokErr, hv]
    have C := Lib.hid c
    clear c e1 e2
    by_cases h0 : (items s.data.toList).length = 0
    · rw [if_pos h0] at t1
      have t2 : tokRunes s.data.toList = [] := by simp [tokRunes, t1]
      rw [t1, t2]
      rw [h0] at C
      clear t1 t2 hv h0
      go_enter Tryd.func101, Tryd.ntmps101
      go_wp2_with fail
      refine C.out.mono ?_
      rintro e w' ⟨A, c, rfl, hr, hb⟩
      go_wp2
      go_ret2
      exact ⟨none, 0, rfl, Runs.nil_ _, hb⟩
    · rw [if_neg h0] at t1
      by_cases h1 : 64 < (items s.data.toList).length
      · rw [if_pos h1] at t1
        have t2 : tokRunes s.data.toList = [] := by simp [tokRunes, t1]
        rw [t1, t2]
        obtain ⟨n, hn⟩ : ∃ n, (items s.data.toList).length = n := ⟨_, rfl⟩
        rw [hn] at C h0 h1
        have h2 : ((n : Int) == 0) = false := by simp; omega
        clear t1 t2 hv hn
        go_enter Tryd.func101, Tryd.ntmps101
        go_wp2_with fail
        refine C.out.mono ?_
        rintro e w' ⟨A, c, rfl, hr, hb⟩
        go_wp2
        go_ret2
        exact ⟨none, 0, rfl, Runs.nil_ _, hb⟩
      · rw [if_neg h1] at t1
        have t2 : tokRunes s.data.toList = items s.data.toList := by simp [tokRunes, t1]
        rw [t1, t2]
        obtain ⟨n, hn⟩ : ∃ n, (items s.data.toList).length = n := ⟨_, rfl⟩
        rw [hn] at C h0 h1 ⊢
        have h2 : ((n : Int) == 0) = false := by simp; omega
        clear t1 t2 hv hn
        go_enter Tryd.func101, Tryd.ntmps101
        go_wp2_with fail
        refine C.out.mono ?_
        rintro e w' ⟨A, c, rfl, hr, hb⟩
        go_wp2
        go_ret2
        exact ⟨A, c, rfl, hr, hb⟩
end Go.Proofs.YtnjhbblhlgpgdaaDoor

/- Words as cells: a slice value that reads as words; rows of the call's own; parts of slices; steps of a region that draws. -/
namespace Go.Proofs.YtnjhbblhlgpgdaaDoor
open Go.RowKit Go.Shelf

def wrdCell (x : Wrd) : List Value := [.string x.1, .int .i64 x.2]
abbrev WRuns (w : World) (v : Value) (l : List Wrd) : Prop := GRuns wrdCell 2 w v l
theorem wrd_cells {w : World} {b o j : Nat} {x : Wrd} {l : List Wrd} (h : ∀ j x, l[j]? = some x → ∀ i u, (wrdCell x)[i]? = some u → w.cell? ⟨b, o + j * 2 + i, none⟩ = some u) (hj : l[j]? = some x) :
    w.cell? ⟨b, o + j * 2, none⟩ = some (.string x.1) ∧ w.cell? ⟨b, o + j * 2 + 1, none⟩ = some (.int .i64 x.2) :=
  ⟨h j x hj 0 _ rfl, h j x hj 1 _ rfl⟩
theorem wrd_ln (x : Wrd) : (wrdCell x).length = 2 := rfl
theorem wrd_one (x : Wrd) : ∀ u ∈ wrdCell x, u.oneCell' = true := by
  intro u hu
  simp only [wrdCell, List.mem_cons, List.mem_nil_iff, or_false] at hu
  rcases hu with rfl | rfl <;> rfl
theorem info_wrd : (Tryd.prog.info? 55).map (fun i => (i.zero, i.size, i.bytes)) = some (some (.agg #[.string ⟨#[]⟩, .int .i64 0]), 2, 24) := by kernel_rfl
theorem cells2_new (w : World) (a b : Value) (t : TypeId) : (w.alloc (.cells #[a, b] t)).cell? ⟨w.heap.size, 0, none⟩ = some a ∧ (w.alloc (.cells #[a, b] t)).cell? ⟨w.heap.size, 1, none⟩ = some b := by
  have h := heap_alloc_new w (.cells #[a, b] t)
  refine ⟨?_, ?_⟩ <;> (rw [cell_of_row _ _ _ _ _ _ h]; rfl)
theorem bel_one (D : World) (o : Obj) : Below D.heap.size D (D.alloc o) := (Below.refl _ _).alloc (Nat.le_refl _) _
theorem bel_two (D : World) (o o' : Obj) : Below D.heap.size D ((D.alloc o).alloc o') := ((Below.refl _ _).alloc (Nat.le_refl _) _).alloc (by simp) _
theorem cell_keep {w w' : World} {p : Addr} {v : Value} (h : Below w.heap.size w w') (hc : w.cell? p = some v) : w'.cell? p = some v := (h.cell (World.block_lt_of_cell? w _ hc)).trans hc
theorem own_litW (w : World) (b : Nat) (hb : b ≤ w.heap.size) : (w.alloc (.cells #[] 55)).ownsRow b 55 2 (.slice (some ⟨w.heap.size, 0, none⟩) 0 0) 0 [] :=
  ⟨by simp, .inr ⟨w.heap.size, 0, #[], rfl, hb, heap_alloc_new w _, Nat.le_refl _, by simp [maxLen], by simp, by simp⟩⟩
theorem wrd_litR (w : World) (x : Wrd) : WRuns (w.alloc (.cells #[.string x.1, .int .i64 x.2] 55)) (.slice (some ⟨w.heap.size, 0, none⟩) 1 1) [x] := by
  have e0 := heap_alloc_new w (.cells #[.string x.1, .int .i64 x.2] 55)
  refine ⟨_, 1, rfl, Nat.le_refl _, ⟨by simp [maxLen], fun h => by cases h⟩, fun _ => ⟨w.heap.size, 0, rfl, by simp, fun j z hj i u hu => ?_⟩⟩
  obtain rfl : j = 0 := by have := (List.getElem?_eq_some_iff.1 hj).1; simpa using this
  obtain rfl : x = z := by simpa using hj
  rw [cell_of_row _ _ _ _ _ (0, 0) e0]
  simpa [wrdCell] using hu
theorem wrds_lit (D : World) (L : List Wrd) (h : L.length ≤ 1000) : WRuns (D.alloc (.cells (gCells wrdCell L).toArray 55)) (.slice (some ⟨D.heap.size, 0, none⟩) L.length L.length) L := by
  refine GRuns.of_own (base := 0) (n := L.length) wrd_ln rfl ⟨gCells_len wrd_ln L, .inr ⟨D.heap.size, L.length, (gCells wrdCell L).toArray, rfl, Nat.zero_le _, heap_alloc_new D _, Nat.le_refl _, by unfold maxLen; omega, ?_, ?_⟩⟩
  · rw [List.size_toArray, gCells_len wrd_ln]
  · show (gCells wrdCell L).take (L.length * 2) = _
    rw [List.take_of_length_le (by rw [gCells_len wrd_ln]; exact Nat.le_refl _)]
theorem make_words (w : World) (c : Nat) (hc : c ≤ 2000000) : ∃ w', (Instr.makeSlice 22 (.int .i64 0) (.int .i64 (c : Int))).run Tryd.prog w = .ok (.slice (some ⟨w.heap.size, 0, none⟩) 0 c) w' ∧
    w'.ownsRow w.heap.size 55 2 (.slice (some ⟨w.heap.size, 0, none⟩) 0 c) 0 [] ∧ w.grownBy w' none := by
  obtain ⟨i0, hi, hz0, hz1, hz2⟩ := info_parts info_wrd
  exact run_make_own w w.heap.size 22 55 i0 _ 2 Tryd.underlying22 hi hz0 hz1 .i64 .i64 c (by rw [hz2]; omega) (by unfold maxLen; omega) (Nat.le_refl _)
/-- append(v, x) to a row of words of the call's own. -/
theorem append_wrd (w : World) (base : Nat) (v : Value) (n : Nat) (pre : List Wrd) (hown : w.ownsRow base 55 2 v n (gCells wrdCell pre)) (x : Wrd) (hbase : base ≤ w.heap.size) (hlen : n ≤ 2000000) :
    ∃ v' w', (Builtin.append_ #[22, 22] 22 #[v, .slice (some ⟨w.heap.size, 0, none⟩) 1 1]).run Tryd.prog (w.alloc (.cells #[.string x.1, .int .i64 x.2] 55)) = .ok v' w' ∧
      w'.ownsRow base 55 2 v' (n + 1) (gCells wrdCell (pre ++ [x])) ∧ Below base w w' := by
  obtain ⟨v', w', hrun, h2, h3, _⟩ := append_one (P := Tryd.prog) (enc := wrdCell) (k := 2) wrd_ln wrd_one info_wrd rfl (by decide) (by decide) Tryd.underlying22 w base v n _ hown x hbase (by omega)
  exact ⟨v', w', hrun, by rw [gCells_snoc]; exact h2, ((Below.refl base w).alloc hbase _).grown h3 (by simp; omega) (fun k hk => (hown.lt k hk).1)⟩
/-- Parts of a slice. -/
theorem gr_front {α : Type} {enc : α → List Value} {k : Nat} {w : World} {A : Option Addr} {n c : Nat} {l : List α} (h : GRuns enc k w (.slice A n c) l) (hn : l.length = n) (m : Nat) (hm : m ≤ n) : GRuns enc k w (.slice A m c) (l.take m) := by
  obtain ⟨A', c', e, hc, hmx, hx⟩ := h
  rw [hn] at e hc hx
  obtain ⟨rfl, _, rfl⟩ := Value.slice.inj e
  have hl : (l.take m).length = m := by rw [List.length_take]; omega
  refine ⟨A, c, by rw [hl], by rw [hl]; omega, hmx, fun h0 => ?_⟩
  rw [hl] at h0
  obtain ⟨b, o, e2, hlt, hcell⟩ := hx (by omega)
  exact ⟨b, o, e2, hlt, fun j x hj i u hu => hcell j x (by rw [List.getElem?_take] at hj; split at hj; exact hj; cases hj) i u hu⟩
theorem gr_none {α : Type} {enc : α → List Value} {k : Nat} {w : World} {A : Option Addr} {c : Nat} (hc : c ≤ maxLen) (hA : A = none → c = 0) : GRuns enc k w (.slice A 0 c) [] := ⟨A, c, rfl, Nat.zero_le _, ⟨hc, hA⟩, fun h => absurd h (by simp)⟩
theorem gr_back {α : Type} {enc : α → List Value} {k : Nat} {w : World} {b o n c : Nat} {l : List α} (h : GRuns enc k w (.slice (some ⟨b, o, none⟩) n c) l) (hn : l.length = n) (m : Nat) (hm : m ≤ n) : GRuns enc k w (.slice (some ⟨b, o + m * k, none⟩) (n - m) (c - m)) (l.drop m) := by
  obtain ⟨A', c', e, hc, ⟨hmx, _⟩, hx⟩ := h
  rw [hn] at e hc hx
  obtain ⟨e1, _, rfl⟩ := Value.slice.inj e
  have hl : (l.drop m).length = n - m := by rw [List.length_drop]; omega
  refine ⟨some ⟨b, o + m * k, none⟩, c - m, by rw [hl], by rw [hl]; omega, ⟨by omega, fun h => by cases h⟩, fun h0 => ?_⟩
  obtain ⟨b', o', e2, hlt, hcell⟩ := hx (by omega)
  have e3 := Option.some.inj (e1.trans e2)
  simp only [Addr.mk.injEq] at e3
  obtain ⟨rfl, rfl, _⟩ := e3
  refine ⟨b, o + m * k, rfl, hlt, fun j x hj i u hu => ?_⟩
  have := hcell (m + j) x (by rwa [List.getElem?_drop] at hj) i u hu
  rwa [show o + (m + j) * k + i = o + m * k + j * k + i by rw [Nat.add_mul]; omega] at this
theorem gr_cap {α : Type} {enc : α → List Value} {k : Nat} {w : World} {A : Option Addr} {n c : Nat} {l : List α} (h : GRuns enc k w (.slice A n c) l) : n ≤ c ∧ c ≤ maxLen ∧ (A = none → c = 0) := by
  obtain ⟨A', c', e, hc, ⟨hmx, h0⟩, _⟩ := h
  obtain ⟨rfl, rfl, rfl⟩ := Value.slice.inj e
  exact ⟨hc, hmx, h0⟩
/-- A row that is kept where another block is turned. -/
theorem gr_aside {α : Type} {enc : α → List Value} {k : Nat} {w w' : World} {b o n c : Nat} {l : List α} {row : Option Nat} (h : GRuns enc k w (.slice (some ⟨b, o, none⟩) n c) l) (hg : w.grownBy w' row) (hne : some b ≠ row) : GRuns enc k w' (.slice (some ⟨b, o, none⟩) n c) l := by
  obtain ⟨A, c', e, hc, hm, hx⟩ := h
  refine ⟨A, c', e, hc, hm, fun h0 => ?_⟩
  obtain ⟨b', o', e2, hlt, hcell⟩ := hx h0
  obtain ⟨e1, _, _⟩ := Value.slice.inj e
  have e3 := Option.some.inj (e1.trans e2)
  simp only [Addr.mk.injEq] at e3
  obtain ⟨rfl, rfl, _⟩ := e3
  exact ⟨b, o, e2, Nat.lt_of_lt_of_le hlt hg.size, fun j x hj i u hu => (World.cell?_of_block (hg.block b hlt hne)).trans (hcell j x hj i u hu)⟩
/-- A call of a Go function of one argument, as one step of a region that draws its order. -/
theorem xstep_call {P : Program} {ops : Array Oper} {o : Oper} {a : Act} {w : World} {K : Act → World → Prop} {Q : Exit → Act → World → Prop} {E : Prop} (hgd : o.guard = none) (f : Nat) (x : Operand) (t : TypeId) (hop : o.op = .call { callee := .value (.func f), args := #[x], argTypes := #[t] })
    (eg : ∀ args w, (callFunc f args).run P w = .ok (.enter f args) w) {u : Value} (hx : a.eval x = u) {Post : Ending → World → Prop} (hc : Calls P f #[u] w Post) (h : ∀ e w', Post e w' → ∃ v, e = .returned v ∧ K (a.put o.dst v) w') :
    if Region.wanted o (yielded ops a.tmps) = true then Oper.wp P o a w K Q else E := by
  have hw : Region.wanted o (yielded ops a.tmps) = true := by simp [Region.wanted, hgd]
  rw [if_pos hw]
  unfold Oper.wp
  have he : (execOp a.eval o).run P w = .ok (.enter f #[u]) w := by
    have hf : a.eval (.func f) = .func (.func f) #[] #[] := rfl
    simp [execOp, hop, resolve, invoke, Deferred.ofValue, hf, hx, eg, Result.andThen]
  rw [he, Oper.upon_enter]
  refine hc.mono ?_
  intro e w' hp
  obtain ⟨v, rfl, hk⟩ := h e w' hp
  exact hk
/-- Of two arguments. -/
theorem xstep_call2 {P : Program} {ops : Array Oper} {o : Oper} {a : Act} {w : World} {K : Act → World → Prop} {Q : Exit → Act → World → Prop} {E : Prop} (hgd : o.guard = none) (f : Nat) (x y : Operand) (t t' : TypeId) (hop : o.op = .call { callee := .value (.func f), args := #[x, y], argTypes := #[t, t'] })
    (eg : ∀ args w, (callFunc f args).run P w = .ok (.enter f args) w) {u u' : Value} (hx : a.eval x = u) (hy : a.eval y = u') {Post : Ending → World → Prop} (hc : Calls P f #[u, u'] w Post) (h : ∀ e w', Post e w' → ∃ v, e = .returned v ∧ K (a.put o.dst v) w') :
    if Region.wanted o (yielded ops a.tmps) = true then Oper.wp P o a w K Q else E := by
  have hw : Region.wanted o (yielded ops a.tmps) = true := by simp [Region.wanted, hgd]
  rw [if_pos hw]
  unfold Oper.wp
  have he : (execOp a.eval o).run P w = .ok (.enter f #[u, u']) w := by
    have hf : a.eval (.func f) = .func (.func f) #[] #[] := rfl
    simp [execOp, hop, resolve, invoke, Deferred.ofValue, hf, hx, hy, eg, Result.andThen]
  rw [he, Oper.upon_enter]
  refine hc.mono ?_
  intro e w' hp
  obtain ⟨v, rfl, hk⟩ := h e w' hp
  exact hk
theorem xstep_append {P : Program} {ops : Array Oper} {o : Oper} {a : Act} {w : World} {K : Act → World → Prop} {Q : Exit → Act → World → Prop} {E : Prop} (hgd : o.guard = none) (s x : Operand) (t : TypeId) (v u v' : Value) (w' : World)
    (ho : o.op = .call { callee := .builtin .append, args := #[s, x], argTypes := #[t, t] }) (hrun : (Builtin.append_ #[t, t] o.type #[v, u]).run P w = .ok v' w') (hs : a.eval s = v) (hx : a.eval x = u)
    (h : K (a.put o.dst v') w') : if Region.wanted o (yielded ops a.tmps) = true then Oper.wp P o a w K Q else E := by
  have hw : Region.wanted o (yielded ops a.tmps) = true := by simp [Region.wanted, hgd]
  rw [if_pos hw]
  unfold Oper.wp
  simp [execOp, ho, resolve, invoke, builtin, hs, hx, hrun, Result.andThen]
  exact h
/-- An append of words onto an owned row, as one step of such a region. -/
theorem xstep_words {ops : Array Oper} {o : Oper} {a : Act} {w : World} {K : Act → World → Prop} {Q : Exit → Act → World → Prop} {E : Prop} (hgd : o.guard = none) (s x : Operand) (base n : Nat) (xs : List Value) (ys : List Wrd) {v u : Value}
    (hown : w.ownsRow base 55 2 v n xs) (hu : WRuns w u ys) (ho : o.op = .call { callee := .builtin .append, args := #[s, x], argTypes := #[22, 22] }) (hty : o.type = 22) (hs : a.eval s = v) (hx : a.eval x = u)
    (hbase : base ≤ w.heap.size) (hlen : (n + ys.length) * 24 ≤ 140737488355328)
    (h : ∀ v' w', w'.ownsRow base 55 2 v' (n + ys.length) (xs ++ gCells wrdCell ys) → w.grownBy w' v.ownBlock → (v'.ownBlock = v.ownBlock ∨ v'.ownBlock = some w.heap.size) → K (a.put o.dst v') w') : if Region.wanted o (yielded ops a.tmps) = true then Oper.wp Tryd.prog o a w K Q else E := by
  obtain ⟨v', w', hrun, h2, h3, h4⟩ := append_many (P := Tryd.prog) wrd_ln wrd_one info_wrd rfl (by decide) (by decide) Tryd.underlying22 w base v n xs hown u ys hu hbase hlen
  exact xstep_append hgd s x _ v u v' w' ho (by rw [hty]; exact hrun) hs hx (h v' w' h2 h3 h4)
end Go.Proofs.YtnjhbblhlgpgdaaDoor

/- The most frequent words, plain. -/
namespace Go.Proofs.YtnjhbblhlgpgdaaDoor
open Go.RowKit Go.Shelf

/-- A word more among words of which the more frequent ones come first. -/
def insF (b : Wrd) : List Wrd → List Wrd
  | [] => [b]
  | x :: t => if x.2 < b.2 then b :: x :: t else x :: insF b t
def bst (l : List Wrd) : List Wrd := l.foldl (fun out b => insF b out) []
def wbE (l : List Wrd) (k : Int) : Int := if wisS l = 0 then (if k < 0 ∨ 1000 < k then 2 else 0) else wisS l
def wbS (l : List Wrd) (k : Int) : List Wrd := if wbE l k = 0 then (bst l).take k.toNat else []
/-- Ever less frequent. -/
def dscF (l : List Wrd) : Prop := l.Pairwise (fun x y => y.2 ≤ x.2)
theorem insF_perm (b : Wrd) (l : List Wrd) : (insF b l).Perm (b :: l) := by
  induction l with
  | nil => exact List.Perm.refl _
  | cons x t ih =>
    rw [insF]
    split
    · exact List.Perm.refl _
    · exact (ih.cons x).trans (List.Perm.swap b x t)
theorem insF_dsc {b : Wrd} {l : List Wrd} (h : dscF l) : dscF (insF b l) := by
  induction l with
  | nil => exact List.pairwise_singleton _ _
  | cons x t ih =>
    obtain ⟨h1, h2⟩ := List.pairwise_cons.1 h
    rw [insF]
    split
    · rename_i hlt
      refine List.pairwise_cons.2 ⟨fun y hy => ?_, h⟩
      rcases List.mem_cons.1 hy with rfl | hy
      · omega
      · have := h1 y hy; omega
    · rename_i hge
      refine List.pairwise_cons.2 ⟨fun y hy => ?_, ih h2⟩
      rcases List.mem_cons.1 ((insF_perm b t).subset hy) with rfl | hy
      · omega
      · exact h1 y hy
theorem insF_at (b : Wrd) (g : List Wrd) (q : Nat) (h1 : ∀ j y, j < q → g[j]? = some y → b.2 ≤ y.2) (h2 : q ≤ g.length) (h3 : ∀ y, g[q]? = some y → y.2 < b.2) : insF b g = g.take q ++ [b] ++ g.drop q := by
  induction g generalizing q with
  | nil =>
    obtain rfl : q = 0 := by simpa using h2
    rfl
  | cons a g ih =>
    cases q with
    | zero => rw [insF, if_pos (h3 a rfl)]; rfl
    | succ q =>
      have := h1 0 a (by omega) rfl
      rw [insF, if_neg (by omega), ih q (fun j y hj hy => h1 (j + 1) y (by omega) (by simpa using hy)) (by simpa using h2) (fun y hy => h3 y (by simpa using hy))]
      simp
theorem dscF_at {g : List Wrd} (h : dscF g) {i j : Nat} {x y : Wrd} (hij : i < j) (hx : g[i]? = some x) (hy : g[j]? = some y) : y.2 ≤ x.2 := by
  obtain ⟨hi, rfl⟩ := List.getElem?_eq_some_iff.1 hx
  obtain ⟨hj, rfl⟩ := List.getElem?_eq_some_iff.1 hy
  exact List.pairwise_iff_getElem.1 h i j hi hj hij
theorem bst_snoc (l : List Wrd) (b : Wrd) : bst (l ++ [b]) = insF b (bst l) := by simp [bst]
theorem bst_take {l : List Wrd} (k : Nat) (x : Wrd) (h : l[k]? = some x) : bst (l.take (k + 1)) = insF x (bst (l.take k)) := by
  rw [List.take_add_one, h]; exact bst_snoc _ _
theorem foldF_perm (l out : List Wrd) : (l.foldl (fun out b => insF b out) out).Perm (l ++ out) := by
  induction l generalizing out with
  | nil => exact List.Perm.refl _
  | cons b l ih =>
    refine (ih (insF b out)).trans (((insF_perm b out).append_left l).trans ?_)
    exact List.perm_middle
theorem bst_perm (l : List Wrd) : (bst l).Perm l := by have := foldF_perm l []; rwa [List.append_nil] at this
theorem bst_len (l : List Wrd) : (bst l).length = l.length := (bst_perm l).length_eq
theorem foldF_dsc (l out : List Wrd) (h : dscF out) : dscF (l.foldl (fun out b => insF b out) out) := by
  induction l generalizing out with
  | nil => exact h
  | cons b l ih => exact ih _ (insF_dsc h)
theorem bst_dsc (l : List Wrd) : dscF (bst l) := foldF_dsc l [] List.Pairwise.nil
/-- The more frequent one first, as frequent ones rising. -/
def ltF (x y : Wrd) : Prop := y.2 < x.2 ∨ (x.2 = y.2 ∧ ltK x.1 y.1 = true)
theorem ltF_trans {x y z : Wrd} (h1 : ltF x y) (h2 : ltF y z) : ltF x z := by
  rcases h1 with h1 | ⟨h1, k1⟩
  · rcases h2 with h2 | ⟨h2, _⟩
    · exact .inl (by omega)
    · exact .inl (by omega)
  · rcases h2 with h2 | ⟨h2, k2⟩
    · exact .inl (by omega)
    · exact .inr ⟨by omega, ltK_on k1 k2⟩
theorem ltF_not {x y : Wrd} (h1 : ltF x y) : ¬ ltF y x := by
  rintro (h2 | ⟨h2, k2⟩)
  · rcases h1 with h1 | ⟨h1, _⟩ <;> omega
  · rcases h1 with h1 | ⟨_, k1⟩
    · omega
    · rw [(ltK_not k1).1] at k2; cases k2
theorem insF_mem (b : Wrd) (l : List Wrd) : ∀ z, z ∈ insF b l ↔ z = b ∨ z ∈ l := fun z => by
  rw [(insF_perm b l).mem_iff, List.mem_cons]
theorem insF_ltF {b : Wrd} {l : List Wrd} (h : l.Pairwise ltF) (hb : ∀ z ∈ l, ltK z.1 b.1 = true) : (insF b l).Pairwise ltF := by
  induction l with
  | nil => exact List.pairwise_singleton _ _
  | cons x t ih =>
    obtain ⟨h1, h2⟩ := List.pairwise_cons.1 h
    rw [insF]
    split
    · rename_i hlt
      refine List.pairwise_cons.2 ⟨fun y hy => ?_, h⟩
      rcases List.mem_cons.1 hy with rfl | hy
      · exact .inl hlt
      · exact ltF_trans (.inl hlt) (h1 y hy)
    · rename_i hge
      refine List.pairwise_cons.2 ⟨fun y hy => ?_, ih h2 (fun z hz => hb z (by simp [hz]))⟩
      rcases (insF_mem b t y).1 hy with rfl | hy
      · rcases Int.lt_or_eq_of_le (Int.not_lt.1 hge) with h3 | h3
        · exact .inl h3
        · exact .inr ⟨h3.symm, hb x (by simp)⟩
      · exact h1 y hy
theorem foldF_ltF (l out : List Wrd) (ho : out.Pairwise ltF) (hs : SrtW l) (hb : ∀ z ∈ out, ∀ b ∈ l, ltK z.1 b.1 = true) : (l.foldl (fun out b => insF b out) out).Pairwise ltF := by
  induction l generalizing out with
  | nil => exact ho
  | cons b l ih =>
    refine ih (insF b out) (insF_ltF ho (fun z hz => hb z hz b (by simp))) hs.2 (fun z hz c hc => ?_)
    rcases (insF_mem b out z).1 hz with rfl | hz
    · exact hs.1 c hc
    · exact hb z hz c (by simp [hc])
theorem bst_ltF {l : List Wrd} (hs : SrtW l) : (bst l).Pairwise ltF := foldF_ltF l [] List.Pairwise.nil hs (fun z hz => by simp at hz)
/-- Two rows of the same, each ever less so, are one. -/
theorem ltF_uniq {a b : List Wrd} (h : a.Perm b) (ha : a.Pairwise ltF) (hb : b.Pairwise ltF) : a = b := by
  induction a generalizing b with
  | nil => exact (List.nil_perm.1 h).symm
  | cons x a ih =>
    cases b with
    | nil => exact absurd (List.perm_nil.1 h) (by simp)
    | cons y b =>
      obtain ⟨a1, a2⟩ := List.pairwise_cons.1 ha
      obtain ⟨b1, b2⟩ := List.pairwise_cons.1 hb
      have e : x = y := by
        rcases List.mem_cons.1 (h.subset (by simp : x ∈ x :: a)) with e | hx
        · exact e
        · rcases List.mem_cons.1 (h.symm.subset (by simp : y ∈ y :: b)) with e | hy
          · exact e.symm
          · exact absurd (a1 y hy) (ltF_not (b1 x hx))
      subst e
      rw [ih ((List.perm_cons x).1 h) a2 b2]
/-- A row while one place wanders through it. -/
def rowF (g : List Wrd) (q : Nat) (z : Wrd) : List Wrd := g.take q ++ [z] ++ g.drop q
theorem rowF_len (g : List Wrd) (q : Nat) (z : Wrd) (h : q ≤ g.length) : (rowF g q z).length = g.length + 1 := by
  unfold rowF; simp only [List.length_append, List.length_take, List.length_drop, List.length_cons, List.length_nil]; omega
theorem rowF_end (g : List Wrd) (z : Wrd) : rowF g g.length z = g ++ [z] := by unfold rowF; simp
theorem rowF_set (g : List Wrd) (q : Nat) (z x : Wrd) (h : q ≤ g.length) : (rowF g q z).set q x = rowF g q x := by
  unfold rowF
  have : (g.take q).length = q := by rw [List.length_take]; omega
  rw [List.append_assoc, List.append_assoc, List.set_append_right _ _ (by omega), this]
  simp
theorem rowF_at (g : List Wrd) (q : Nat) (z y : Wrd) (hy : g[q]? = some y) : (rowF g (q + 1) z)[q]? = some y := by
  have hq := (List.getElem?_eq_some_iff.1 hy).1
  unfold rowF
  rw [List.append_assoc, List.getElem?_append_left (by rw [List.length_take]; omega), List.getElem?_take, if_pos (by omega), hy]
theorem rowF_down (g : List Wrd) (q : Nat) (y : Wrd) (hy : g[q]? = some y) : rowF g (q + 1) y = rowF g q y := by
  have hq := (List.getElem?_eq_some_iff.1 hy).1
  have hd : g.drop q = y :: g.drop (q + 1) := by
    rw [List.drop_eq_getElem_cons hq, (List.getElem?_eq_some_iff.1 hy).2]
  unfold rowF
  rw [hd, List.take_add_one, hy]
  simp
end Go.Proofs.YtnjhbblhlgpgdaaDoor

/- The functions that sort and search words: together$1, moreFrequent, place$1, cmp.Or. -/
namespace Go.Proofs.YtnjhbblhlgpgdaaDoor
open Go.RowKit Go.Shelf Go.Lib
open Go.Sort (grow alloc_eq_grow grow_grow SWO PermIn SortedIn HoldsK)
set_option linter.unusedSimpArgs false
set_option linter.unusedVariables false

theorem xgrow_more (w : World) (q q2 : Nat) (os o2 : Array Obj) : ∃ q' os', grow ((grow (w.drewN q) os).drewN q2) o2 = grow (w.drewN q') os' := ⟨q + q2, os ++ o2, by simp [grow, World.drewN, Nat.add_assoc, Array.append_assoc]⟩
theorem xbelow_grows (w : World) (q : Nat) (os : Array Obj) : Below w.heap.size w (grow (w.drewN q) os) :=
  ⟨rfl, rfl, rfl, by simp [grow, World.drewN], fun k hk => by
    show (w.heap ++ os)[k]? = _
    rw [Array.getElem?_append_left hk]⟩
/-- By their texts. -/
def cmpT (x y : Wrd) : Int := cmpK x.1 y.1
theorem ltOf_cmpT (x y : Wrd) : ltOf cmpT x y = ltK x.1 y.1 := by
  unfold ltOf cmpT
  have := cmpK_neg x.1 y.1
  rw [Bool.eq_iff_iff]
  simpa using this
theorem swo_cmpT : SWO (ltOf cmpT) where
  irrefl x := by rw [ltOf_cmpT]; exact ltK_irrefl _
  trans x y z h1 h2 := by rw [ltOf_cmpT] at *; exact ltK_on h1 h2
  ntrans x y z h1 h2 := by rw [ltOf_cmpT] at *; exact ltK_ge_on h2 h1
/-- The more frequent one first. -/
def cmpFq (x y : Wrd) : Int := if Lib.compareInt y.2 x.2 = 0 then cmpK x.1 y.1 else Lib.compareInt y.2 x.2
theorem ltOf_cmpFq (x y : Wrd) : ltOf cmpFq x y = true ↔ ltF x y := by
  have h := cmpK_neg x.1 y.1
  unfold ltOf cmpFq ltF Lib.compareInt
  by_cases h1 : y.2 < x.2
  · simp [h1]
  · by_cases h2 : x.2 < y.2
    · simp [h1, h2]; omega
    · have e : x.2 = y.2 := by omega
      simp [e, h]
theorem swo_cmpFq : SWO (ltOf cmpFq) where
  irrefl x := by
    cases h : ltOf cmpFq x x with
    | false => rfl
    | true => exact absurd ((ltOf_cmpFq x x).1 h) (ltF_not ((ltOf_cmpFq x x).1 h))
  trans x y z h1 h2 := by rw [ltOf_cmpFq] at *; exact ltF_trans h1 h2
  ntrans x y z h1 h2 := by
    cases h3 : ltOf cmpFq x z with
    | false => rfl
    | true =>
      exfalso
      have k1 : ¬ ltF x y := fun e => by rw [(ltOf_cmpFq x y).2 e] at h1; cases h1
      have k2 : ¬ ltF y z := fun e => by rw [(ltOf_cmpFq y z).2 e] at h2; cases h2
      have k3 := (ltOf_cmpFq x z).1 h3
      have a1 : x.2 ≤ y.2 := Int.not_lt.1 (fun h => k1 (.inl h))
      have a2 : y.2 ≤ z.2 := Int.not_lt.1 (fun h => k2 (.inl h))
      rcases k3 with h | ⟨h, h'⟩
      · omega
      · have e1 : x.2 = y.2 := by omega
        have e2 : y.2 = z.2 := by omega
        have b1 : ltK x.1 y.1 = false := by
          cases hb : ltK x.1 y.1 with
          | false => rfl
          | true => exact absurd (.inr ⟨e1, hb⟩) k1
        have b2 : ltK y.1 z.1 = false := by
          cases hb : ltK y.1 z.1 with
          | false => rfl
          | true => exact absurd (.inr ⟨e2, hb⟩) k2
        rw [ltK_ge_on b2 b1] at h'
        cases h'

set_option maxRecDepth 100000 in
set_option maxHeartbeats 4000000 in
theorem tog1_lays (x y : Wrd) (w : World) :
    Calls Tryd.prog 70 #[.agg (wrdCell x).toArray, .agg (wrdCell y).toArray] w fun e w' => e = .returned (.int .i64 (cmpT x y)) ∧ ∃ q os, w' = grow (w.drewN q) os := by
  obtain ⟨x1, x2⟩ := x
  obtain ⟨y1, y2⟩ := y
  show Calls Tryd.prog 70 #[.agg #[.string x1, .int .i64 x2], .agg #[.string y1, .int .i64 y2]] w _
  have c1 := fun w => Tryd.strings_Compare x1 y1 w
  have hc : Lib.compareBytes x1.data.toList y1.data.toList = cmpT (x1, x2) (y1, y2) := rfl
  rw [hc] at c1
  obtain ⟨r, hr⟩ : ∃ r, cmpT (x1, x2) (y1, y2) = r := ⟨_, rfl⟩
  rw [hr] at c1 ⊢
  have C1 := Lib.hid c1
  clear c1 hc hr
  have h2 : Hid (∀ o o' : Obj, ∃ q os, (w.alloc o).alloc o' = grow (w.drewN q) os) := Lib.hid (fun o o' => ⟨0, _, by rw [alloc_eq_grow, alloc_eq_grow, grow_grow]; rfl⟩)
  go_enter Tryd.func70, Tryd.ntmps70
  go_wp2_with fail
  refine (C1.out _).mono ?_
  rintro e w1 ⟨rfl, rfl⟩
  go_wp2
  go_ret
  exact ⟨rfl, h2.out _ _⟩
set_option maxRecDepth 100000 in
set_option maxHeartbeats 4000000 in
theorem plc1_lays (a : ByteArray) (N : Int) (s : ByteArray) (w : World) :
    Calls Tryd.prog 81 #[.agg #[.string a, .int .i64 N], .string s] w fun e w' => e = .returned (.int .i64 (cmpK a s)) ∧ ∃ q os, w' = grow (w.drewN q) os := by
  have c1 := fun w => Tryd.strings_Compare a s w
  have hc : Lib.compareBytes a.data.toList s.data.toList = cmpK a s := rfl
  rw [hc] at c1
  obtain ⟨r, hr⟩ : ∃ r, cmpK a s = r := ⟨_, rfl⟩
  rw [hr] at c1 ⊢
  have C1 := Lib.hid c1
  clear c1 hc hr
  have h1 : Hid (∀ o : Obj, ∃ q os, w.alloc o = grow (w.drewN q) os) := Lib.hid (fun o => ⟨0, _, by rw [alloc_eq_grow]; rfl⟩)
  go_enter Tryd.func81, Tryd.ntmps81
  go_wp2_with fail
  refine (C1.out _).mono ?_
  rintro e w1 ⟨rfl, rfl⟩
  go_wp2
  go_ret
  exact ⟨rfl, h1.out _⟩
end Go.Proofs.YtnjhbblhlgpgdaaDoor

/- slices.Clone and slices.SortFunc over words: a copy of the call's own, sorted by the library. -/
namespace Go.Proofs.YtnjhbblhlgpgdaaDoor
open Go.RowKit Go.Shelf Go.Lib
open Go.Sort (grow heap_grow_old putRow mapBlock onCells SWO PermIn SortedIn HoldsK flatK get_flatK size_flatK)
set_option linter.unusedSimpArgs false
set_option linter.unusedVariables false

theorem heap_sortX {w : World} {g n : Nat} {d : Array Wrd} {os : Array Obj} : w.grownBy (sortWorldK wrdCell 2 w g 0 n d os) (some g) := by
  unfold sortWorldK Go.Sort.putRowK
  refine ⟨rfl, rfl, rfl, by simp, fun k hk hne => ?_⟩
  rw [heap_grow_old _ _ (by simpa using hk)]
  have : g ≠ k := fun e => hne (by rw [e])
  simp [putRow, mapBlock, Go.Sort.ahead, Array.getElem?_modify, this]
theorem flatX_at (L : List Wrd) (j : Nat) (hj : j < L.length * 2) : ∃ x, L[j / 2]? = some x ∧ (wrdCell x)[j % 2]? = some (flatK wrdCell 2 L.toArray)[j]! := by
  have hq : j / 2 < L.length := (Nat.div_lt_iff_lt_mul (by decide)).2 hj
  have hm : j % 2 < 2 := Nat.mod_lt _ (by decide)
  refine ⟨L[j / 2], List.getElem?_eq_getElem hq, ?_⟩
  rw [get_flatK _ _ _ _ (by simpa using hj)]
  have e : L.toArray[j / 2]! = L[j / 2] := by simp [hq]
  rw [e]
  have hl : j % 2 < (wrdCell L[j / 2]).length := hm
  rw [List.getElem?_eq_getElem hl]
  simp [hl]
theorem holdsX {w : World} {g n c : Nat} {L : List Wrd} (hn : L.length = n) (h : GRuns wrdCell 2 w (.slice (some ⟨g, 0, none⟩) n c) L) (hf : ∀ j, w.frozen? ⟨g, j, none⟩ = false) : HoldsK wrdCell 2 w g 0 L.toArray := by
  intro j hj
  have hj' : j < L.length * 2 := by simpa using hj
  refine ⟨?_, hf _⟩
  obtain ⟨x, hx, hc⟩ := flatX_at L j hj'
  obtain ⟨b, o, e, _, hcell⟩ := h.cells hn (by rw [← hn]; omega)
  have e := Option.some.inj e
  simp only [Addr.mk.injEq] at e
  obtain ⟨rfl, rfl, _⟩ := e
  have h1 := hcell _ x hx _ _ hc
  rw [show 0 + j / 2 * 2 + j % 2 = 0 + j by omega] at h1
  simpa using h1
theorem runsX {w : World} {g n c : Nat} {L : List Wrd} (hn : L.length = n) (hc : n ≤ c) (hm : c ≤ maxLen) (hg : g < w.heap.size) (h : HoldsK wrdCell 2 w g 0 L.toArray) : GRuns wrdCell 2 w (.slice (some ⟨g, 0, none⟩) n c) L := by
  subst hn
  refine ⟨_, c, rfl, hc, ⟨hm, fun h => by cases h⟩, fun _ => ⟨g, 0, rfl, hg, fun j x hj i u hu => ?_⟩⟩
  have hi : i < 2 := (List.getElem?_eq_some_iff.1 hu).1
  have hjl : j < L.length := (List.getElem?_eq_some_iff.1 hj).1
  have hlt : j * 2 + i < L.length * 2 := by omega
  have h1 := (h (j * 2 + i) (by simpa using hlt)).1
  obtain ⟨x', hx', hc'⟩ := flatX_at L (j * 2 + i) hlt
  rw [show (j * 2 + i) / 2 = j by omega] at hx'
  rw [show (j * 2 + i) % 2 = i by omega] at hc'
  rw [hj] at hx'
  obtain rfl := Option.some.inj hx'
  rw [hu] at hc'
  rw [← Option.some.inj hc'] at h1
  rw [← Nat.add_assoc] at h1
  simpa using h1
theorem xsort_none (fv : Value) (w : World) : Calls Tryd.prog 69 #[.slice none 0 0, fv] w fun e w' => e = .returned (.tuple #[]) ∧ w' = w :=
  AnyF.slices_SortFunc_none Tryd.sortW none 0 fv w
/-- slices.SortFunc over a row of the call's own. -/
theorem xsort_own (f : Nat) (cf : Wrd → Wrd → Int) (sw : SWO (ltOf cf)) (eg : ∀ args w, (callFunc f args).run Tryd.prog w = .ok (.enter f args) w)
    (hlay : ∀ x y w, Calls Tryd.prog f #[.agg (wrdCell x).toArray, .agg (wrdCell y).toArray] w fun e w' => e = .returned (.int .i64 (cf x y)) ∧ ∃ q os, w' = grow (w.drewN q) os)
    (L : List Wrd) (n g cap base : Nat) (w : World) (hn : L.length = n) (hown : w.ownsRow base 55 2 (.slice (some ⟨g, 0, none⟩) n cap) n (gCells wrdCell L)) (hl : n ≤ 2000000) (hbase : base ≤ w.heap.size) :
    Calls Tryd.prog 69 #[.slice (some ⟨g, 0, none⟩) n cap, .func (.func f) #[] #[]] w fun e w' => e = .returned (.tuple #[]) ∧
      ∃ d : List Wrd, d.Perm L ∧ d.Pairwise (fun x y => ltOf cf y x = false) ∧ WRuns w' (.slice (some ⟨g, 0, none⟩) n cap) d ∧ Below base w w' := by
  have hg := GRuns.of_own wrd_ln hn hown
  rcases hown.2 with ⟨e, _⟩ | ⟨g', cap', cur, e0, hb, hh, h1, h2, h3, h4⟩
  · cases e
  simp only [Value.slice.injEq, Option.some.injEq, Addr.mk.injEq] at e0
  obtain ⟨⟨rfl, _⟩, _, rfl⟩ := e0
  have hgl : g < w.heap.size := (Array.getElem?_eq_some_iff.1 hh).1
  have hH := holdsX hn hg (own_thaw hown)
  have hs : L.toArray.size = n := by simpa using hn
  have c := AnyQ.slices_SortFunc Tryd.sortW 2 Tryd.isAgg55 Tryd.sizeOf55 wrdCell (fun _ => rfl) wrd_one cf sw f #[] g 0 cap L.toArray w eg (fun _ _ _ _ x y => hlay x y _) hH hgl (by rw [hs]; omega)
  rw [hs] at c
  refine c.mono ?_
  rintro e w' ⟨rfl, d', q, os, hp, hso, rfl⟩
  obtain ⟨hp1, _, hp3⟩ := hp
  have hds : d'.size = n := by rw [hp1]; exact hs
  have e1 : d'.extract 0 n = d' := by rw [← hds]; simp
  have e2 : L.toArray.extract 0 n = L.toArray := by rw [← hs]; simp
  rw [e1, e2] at hp3
  have hdn : d'.toList.length = n := by simpa using hds
  have hH' := holdsK_sortWorldK_c wrdCell 2 w g 0 L.toArray d' q os hH hgl (by rw [hds, hs])
  have hr := runsX (L := d'.toList) hdn h1 h2 (Nat.lt_of_lt_of_le hgl (size_sortWorldK_c wrdCell 2 w g 0 q d' os)) (by simpa using hH')
  refine ⟨rfl, d'.toList, by simpa using hp3, ?_, hr, (Below.refl base w).grown heap_sortX hbase (fun k hk => by cases hk; exact hb)⟩
  rw [List.pairwise_iff_getElem]
  intro i j hi hj hij
  have := hso i j (Nat.zero_le _) hij (by rw [← hdn]; exact hj)
  have ei : d'[i]! = d'.toList[i] := by
    have : i < d'.size := by simpa using hi
    simp [this]
  have ej : d'[j]! = d'.toList[j] := by
    have : j < d'.size := by simpa using hj
    simp [this]
  rw [ei, ej] at this
  exact this
set_option maxRecDepth 100000 in
set_option maxHeartbeats 4000000 in
/-- A copy, in memory of the call's own. -/
theorem xclone_words (A : Option Addr) (n c : Nat) (l : List Wrd) (w : World) (hn : l.length = n) (hu : WRuns w (.slice A n c) l) (hl : n ≤ 2000000) :
    Calls Tryd.prog 68 #[.slice A n c] w fun e w' => ∃ v, e = .returned v ∧ w'.ownsRow w.heap.size 55 2 v n (gCells wrdCell l) ∧ Below w.heap.size w w' := by
  have q22 : ∀ (w : World) (a : Option Addr) (n c n' c' : Nat), (binOp .eql 22 (.slice a n c) (.slice none n' c')).run Tryd.prog w = .ok (.bool a.isNone) w := fun w a n c n' c' => Lib.run_eql_slice_nil w _ _ a n c n' c' Tryd.underlying22
  cases A with
  | none =>
    have h0 : n = 0 := by
      obtain ⟨A', c', e, hc, ⟨_, h0⟩, _⟩ := hu
      obtain ⟨e1, e2, e3⟩ := Value.slice.inj e
      have := h0 e1.symm
      omega
    subst h0
    have e0 : l = [] := List.eq_nil_of_length_eq_zero hn
    subst e0
    clear hu hn hl
    go_enter Tryd.func68, Tryd.ntmps68
    go_wp2
    go_ret
    exact ⟨_, rfl, World.ownsRow_nil _ _ _ _, Below.refl _ _⟩
  | some ad =>
    have hba := bel_one w (.cells #[] 55)
    obtain ⟨v7, w7, hrun7, hown7, hg7, hat7⟩ := append_many (P := Tryd.prog) wrd_ln wrd_one info_wrd rfl (by decide) (by decide) Tryd.underlying22 _ w.heap.size _ 0 [] (own_litW w _ (Nat.le_refl _)) _ l (hu.below hba) (by simp) (by rw [hn]; omega)
    have hb7 : Below w.heap.size w w7 := hba.grown hg7 (by simp) (fun k hk => by simp [Value.ownBlock] at hk; omega)
    rw [hn] at hown7
    have H7 := Lib.hid hrun7; have HO := Lib.hid hown7; have HB := Lib.hid hb7
    clear hrun7 hown7 hg7 hat7 hb7 hba hu
    go_enter Tryd.func68, Tryd.ntmps68
    go_wp2_with (at_builtin; refine wpList_append_run (.tmp 5) (.tmp 6) 22 _ _ _ _ H7.out rfl rfl rfl rfl ?_)
    go_ret
    exact ⟨_, rfl, by simpa using HO.out, HB.out⟩
end Go.Proofs.YtnjhbblhlgpgdaaDoor

/- errataref09.Check, all, Is, Find, Same: what each answers. -/
namespace Go.Proofs.YtnjhbblhlgpgdaaDoor
open Go.RowKit Go.Shelf
set_option linter.unusedSimpArgs false
set_option linter.unusedVariables false

theorem wchk_size (x : Wrd) (h : x.1.size ≤ 2000000) : x.1.size * 4 ≤ 140737488355328 := by omega
set_option maxRecDepth 100000 in
set_option maxHeartbeats 4000000 in
theorem refCheck9_any (a : ByteArray) (N : Int) (w : World) (ha : a.size ≤ 2000000) :
    Calls Tryd.prog 77 #[.agg #[.string a, .int .i64 N]] w fun e w' => e = .returned (.int .i64 (wchk (a, N))) ∧ Below w.heap.size w w' := by
  have c5 := fun w => refToken_any a w (by omega)
  have hR : wchk (a, N) = if tokErr a.data.toList = 0 then (if N < 1 ∨ 1073741824 < N then 2 else 0) else tokErr a.data.toList := rfl
  obtain ⟨res, hres⟩ : ∃ r, wchk (a, N) = r := ⟨_, rfl⟩
  obtain ⟨er, her⟩ : ∃ r, tokErr a.data.toList = r := ⟨_, rfl⟩
  obtain ⟨nr, hnr⟩ : ∃ r, (tokRunes a.data.toList).length = r := ⟨_, rfl⟩
  rw [hres] at hR ⊢
  rw [her] at hR
  simp only [her, hnr] at c5
  obtain ⟨a0, a1⟩ := cells2_new w (.string a) (.int .i64 N) 55
  have hal := bel_one w (.cells #[.string a, .int .i64 N] 55)
  have hlt : w.heap.size < (w.alloc (.cells #[.string a, .int .i64 N] 55)).heap.size := by simp
  obtain ⟨W1, hW1⟩ : ∃ z, w.alloc (.cells #[.string a, .int .i64 N] 55) = z := ⟨_, rfl⟩
  rw [hW1] at a0 a1 hal hlt
  obtain ⟨bx, hbx⟩ : ∃ z, w.heap.size = z := ⟨_, rfl⟩
  rw [hbx] at a0 a1 hlt
  have HW1 := Lib.hid hW1; have HBX := Lib.hid hbx; have HAL := Lib.hid hal; have C5 := Lib.hid c5; have HR := Lib.hid hR
  clear hW1 hbx hal c5 hR hres her hnr
  go_enter Tryd.func77, Tryd.ntmps77
  go_wp2_with fail
  rw [HW1.out, HBX.out]
  refine (C5.out _).mono ?_
  rintro e w2 ⟨A, c, rfl, _, b2⟩
  have d2 := (b2.cell (p := ⟨bx, 1, none⟩) hlt).trans a1
  have B2 : Hid (Below w.heap.size w w2) := Lib.hid (HAL.out.trans (b2.mono HAL.out.size))
  clear b2 a0 a1
  by_cases h0 : er = 0
  · subst h0
    by_cases h1 : N < 1
    · have hr : Hid (res = 2) := Lib.hid (by rw [HR.out, if_pos (by first | rfl | trivial), if_pos (.inl h1)])
      go_wp2
      go_ret
      exact ⟨by rw [hr.out]; rfl, B2.out⟩
    · by_cases h2 : 1073741824 < N
      · have hr : Hid (res = 2) := Lib.hid (by rw [HR.out, if_pos (by first | rfl | trivial), if_pos (.inr h2)])
        go_wp2
        go_ret
        exact ⟨by rw [hr.out]; rfl, B2.out⟩
      · have hr : Hid (res = 0) := Lib.hid (by rw [HR.out, if_pos (by first | rfl | trivial), if_neg (by omega)])
        go_wp2
        go_ret
        exact ⟨by rw [hr.out]; rfl, B2.out⟩
  · have h0' : (er == 0) = false := by simpa using h0
    have hr : Hid (res = er) := Lib.hid (by rw [HR.out, if_neg h0])
    go_wp2
    go_ret
    exact ⟨by rw [hr.out]; rfl, B2.out⟩
set_option maxRecDepth 100000 in
set_option maxHeartbeats 8000000 in
theorem refAll9_any (u : Value) (l : List Wrd) (w : World) (hu : WRuns w u l) (hl : l.length ≤ 2000000) (hz : szW l) :
    Calls Tryd.prog 50 #[u] w fun e w' => e = .returned (.int .i64 (wall l)) ∧ Below w.heap.size w w' := by
  obtain ⟨A, c, e⟩ := hu.slice
  subst e
  have HU := Lib.hid hu; clear hu
  obtain ⟨n, hn⟩ : ∃ n, l.length = n := ⟨_, rfl⟩
  obtain ⟨res, hres⟩ : ∃ r, wall l = r := ⟨_, rfl⟩
  rw [hres]
  have HT := Lib.hid hres; clear hres
  rw [hn] at hl HU ⊢
  have HN := Lib.hid hn; clear hn
  have HZ := Lib.hid hz; clear hz
  have C5 := Lib.hid refCheck9_any
  go_enter Tryd.func50, Tryd.ntmps50
  go_wp2
  go_loopw [8] (fun s8 wr => ∃ k : Nat, k ≤ n ∧ s8 = .int .i64 k ∧ Hid (wall (l.take k) = 0) ∧ Hid (Below w.heap.size w wr)) (fun s8 _ => n - (RowKit.intOf s8).toNat)
  case atStart => exact ⟨0, Nat.zero_le _, rfl, Lib.hid rfl, Lib.hid (Below.refl _ _)⟩
  case round =>
    obtain ⟨k, hkn, rfl, HC, BW⟩ := hrel
    by_cases hk : k < n
    · have k1 : (k : Int) < (n : Int) := by omega
      obtain ⟨⟨p1, p2⟩, hp⟩ : ∃ p, l[k]? = some p := ⟨_, List.getElem?_eq_getElem (by rw [HN.out]; exact hk)⟩
      obtain ⟨b, o, rfl, _, hc⟩ := (HU.out.below BW.out).cells HN.out (by omega)
      obtain ⟨g0, g1⟩ := wrd_cells hc hp
      simp only at g0 g1
      have hz1 := HZ.out _ (List.mem_of_getElem? hp)
      have hch := wall_take k _ hp HC.out
      simp only at hz1
      obtain ⟨er, her⟩ : ∃ z, wchk (p1, p2) = z := ⟨_, rfl⟩
      rw [her] at hch
      have HCH := Lib.hid hch
      have hal : Hid (Below w.heap.size w (wr.alloc (.cells #[.string p1, .int .i64 p2] 55))) := Lib.hid (BW.out.alloc BW.out.size _)
      have c5 := C5.out p1 p2 (wr.alloc (.cells #[.string p1, .int .i64 p2] 55)) hz1
      rw [her] at c5
      have CC := Lib.hid c5
      clear hc hp hch c5 her
      go_wp2_with fail
      refine CC.out.mono ?_
      rintro e w5 ⟨rfl, b5⟩
      have B5 : Hid (Below w.heap.size w w5) := Lib.hid (hal.out.trans (b5.mono hal.out.size))
      clear b5
      by_cases h0 : er = 0
      · subst h0
        go_wp2
        exact ⟨⟨k + 1, by omega, by go_num, Lib.hid (HCH.out.1 (by first | rfl | trivial)), B5⟩, by simp [RowKit.intOf]; omega⟩
      · have h0' : (er == 0) = false := by simpa using h0
        have hr : Hid (res = er) := Lib.hid (by rw [← HT.out]; exact HCH.out.2 h0)
        go_wp2
        go_ret
        exact ⟨by rw [hr.out]; rfl, B5.out⟩
    · obtain rfl : k = n := by omega
      have hr : Hid (res = 0) := Lib.hid (by have := HC.out; rw [← HN.out, List.take_length] at this; rw [← HT.out]; exact this)
      clear HC
      go_wp2
      go_ret
      exact ⟨by rw [hr.out]; rfl, BW.out⟩
set_option maxRecDepth 100000 in
set_option maxHeartbeats 8000000 in
theorem refIs9_any (u : Value) (l : List Wrd) (w : World) (hu : WRuns w u l) (hl : l.length ≤ 2000000) (hz : szW l) :
    Calls Tryd.prog 37 #[u] w fun e w' => e = .returned (.int .i64 (wisS l)) ∧ Below w.heap.size w w' := by
  have ca := refAll9_any u l w hu hl hz
  obtain ⟨A, c, e⟩ := hu.slice
  subst e
  have HU := Lib.hid hu; clear hu
  obtain ⟨n, hn⟩ : ∃ n, l.length = n := ⟨_, rfl⟩
  have hT : wisS l = if wall l = 0 then (if ordW l then (if 65536 < n then 6 else 0) else 7) else wall l := by rw [wisS, hn]
  obtain ⟨res, hres⟩ : ∃ r, wisS l = r := ⟨_, rfl⟩
  rw [hres] at hT ⊢
  have HT := Lib.hid hT; clear hT hres
  rw [hn] at hl HU ca ⊢
  have HN := Lib.hid hn; clear hn hz
  obtain ⟨ra, hra⟩ : ∃ z, wall l = z := ⟨_, rfl⟩
  rw [hra] at ca
  have HRA := Lib.hid hra; have CA := Lib.hid ca
  clear hra ca
  go_enter Tryd.func37, Tryd.ntmps37
  go_wp2_with fail
  refine CA.out.mono ?_
  rintro e w1 ⟨rfl, b1⟩
  have BW := Lib.hid b1; clear b1
  by_cases h00 : ra = 0
  · subst h00
    have HC0 : Hid (wall l = 0) := Lib.hid HRA.out
    go_wp2
    go_loopw [12] (fun s18 wr' => ∃ j : Nat, j ≤ n ∧ s18 = .int .i64 j ∧ Hid (ordW (l.take j) = true) ∧ Hid (Below w.heap.size w wr')) (fun s18 _ => n - (RowKit.intOf s18).toNat)
    case atStart => exact ⟨0, Nat.zero_le _, rfl, Lib.hid rfl, BW⟩
    case round =>
      obtain ⟨j, hjk, rfl, HO, BW2⟩ := hrel
      by_cases hj : j < n
      · have j1 : (j : Int) < (n : Int) := by omega
        rcases Nat.eq_zero_or_pos j with h0 | h0
        · subst h0
          go_wp2
          go_quiet (fail)
          go_wp2
          exact ⟨⟨1, by omega, by go_num, Lib.hid (ordW_one l), Lib.hid (below_draws BW2.out _)⟩, by simp [RowKit.intOf]; omega⟩
        · obtain ⟨i, hi⟩ : ∃ i : Nat, (j : Int) - 1 = (i : Int) := ⟨j - 1, by omega⟩
          have ei : j = i + 1 := by omega
          have EI := Lib.hid ei
          obtain ⟨⟨y1, y2⟩, hy⟩ : ∃ p, l[i]? = some p := ⟨_, List.getElem?_eq_getElem (by rw [HN.out]; omega)⟩
          obtain ⟨⟨x1, x2⟩, hx⟩ : ∃ p, l[j]? = some p := ⟨_, List.getElem?_eq_getElem (by rw [HN.out]; omega)⟩
          have RW := Lib.hid (HU.out.below BW2.out)
          obtain ⟨b, o, rfl, hblt, hc⟩ := RW.out.cells HN.out (by omega)
          obtain ⟨g0, g1⟩ := wrd_cells hc hy
          obtain ⟨g3, g4⟩ := wrd_cells hc hx
          simp only at g0 g1 g3 g4
          have hor := ordW_take i (y1, y2) (x1, x2) hy (by rw [← ei]; exact hx) (by rw [← ei]; exact HO.out)
          obtain ⟨le, hle⟩ : ∃ z, ltK y1 x1 = z := ⟨_, rfl⟩
          simp only [hle] at hor
          unfold ltK at hle
          have HOR := Lib.hid hor
          clear hc hy hx hor ei HO
          have i0 : (0 : Int) < (j : Int) := by omega
          have i1 : (i : Int) < (n : Int) := by omega
          have hwr : IntKind.i64.wrap ((j : Int) - 1) = (i : Int) := by rw [IntKind.wrap_i64]; omega
          have hwi : IntKind.i64.wrap (i : Int) = (i : Int) := by rw [IntKind.wrap_i64]; omega
          have i2 : (0 : Int) ≤ (i : Int) := by omega
          cases le
          · have hr : Hid (res = 7) := Lib.hid (by rw [HT.out, if_pos HC0.out, if_neg (by rw [HOR.out.2 rfl]; simp)])
            go_wp2
            go_quiet (fail)
            go_wp2
            go_ret
            exact ⟨by rw [hr.out]; rfl, below_draws BW2.out _⟩
          · go_wp2
            go_quiet (fail)
            go_wp2
            exact ⟨⟨j + 1, by omega, by go_num, Lib.hid (by have := HOR.out.1 (by first | rfl | trivial); rwa [← EI.out] at this), Lib.hid (below_draws BW2.out _)⟩, by simp [RowKit.intOf]; omega⟩
      · obtain rfl : j = n := by omega
        have HO0 : Hid (ordW l = true) := Lib.hid (by have := HO.out; rwa [← HN.out, List.take_length] at this)
        clear HO BW
        by_cases hbig : 65536 < j
        · have hb1 : (65536 : Int) < (j : Int) := by omega
          have hr : Hid (res = 6) := Lib.hid (by rw [HT.out, if_pos HC0.out, if_pos HO0.out, if_pos hbig])
          go_wp2
          go_ret
          exact ⟨by rw [hr.out]; rfl, BW2.out⟩
        · have hb1 : ¬ (65536 : Int) < (j : Int) := by omega
          have hr : Hid (res = 0) := Lib.hid (by rw [HT.out, if_pos HC0.out, if_pos HO0.out, if_neg hbig])
          go_wp2
          go_ret
          exact ⟨by rw [hr.out]; rfl, BW2.out⟩
  · have h00' : (ra == 0) = false := by simpa using h00
    have hr : Hid (res = ra) := Lib.hid (by rw [HT.out, HRA.out, if_neg h00])
    go_wp2
    go_ret
    exact ⟨by rw [hr.out]; rfl, BW.out⟩
end Go.Proofs.YtnjhbblhlgpgdaaDoor

/- errataref09.Best: the most frequent words. -/
namespace Go.Proofs.YtnjhbblhlgpgdaaDoor
open Go.RowKit Go.Shelf
set_option linter.unusedSimpArgs false
set_option linter.unusedVariables false

theorem gCells_set2 (g : List Wrd) (k : Nat) (x : Wrd) (h : k < g.length) : ((gCells wrdCell g).set (k * 2) (.string x.1)).set (k * 2 + 1) (.int .i64 x.2) = gCells wrdCell (g.set k x) := by
  induction g generalizing k with
  | nil => simp at h
  | cons a g ih =>
    cases k with
    | zero => rfl
    | succ k =>
      have := ih k (by simpa using h)
      show ((wrdCell a ++ gCells wrdCell g).set ((k + 1) * 2) _).set ((k + 1) * 2 + 1) _ = wrdCell a ++ gCells wrdCell (g.set k x)
      rw [← this, show (k + 1) * 2 + 1 = (k * 2 + 1) + 2 by omega, show (k + 1) * 2 = (k * 2) + 2 by omega]
      rfl
/-- A word stored into a row of the call's own. -/
theorem own_word {w : World} {base g cap n : Nat} {L : List Wrd} (h : w.ownsRow base 55 2 (.slice (some ⟨g, 0, none⟩) n cap) n (gCells wrdCell L)) (hn : L.length = n) (j : Nat) (hj : j < n) (x : Wrd) :
    ((w.setCell ⟨g, j * 2, none⟩ (.string x.1)).setCell ⟨g, j * 2 + 1, none⟩ (.int .i64 x.2)).ownsRow base 55 2 (.slice (some ⟨g, 0, none⟩) n cap) n (gCells wrdCell (L.set j x)) := by
  have h1 := own_store (own_store h (j * 2) (by omega) (.string x.1)) (j * 2 + 1) (by omega) (.int .i64 x.2)
  rwa [gCells_set2 L j x (by omega)] at h1
theorem xcell_ne (w : World) (g j : Nat) (u : Value) (b o : Nat) (h : b ≠ g) : (w.setCell ⟨g, j, none⟩ u).cell? ⟨b, o, none⟩ = w.cell? ⟨b, o, none⟩ := World.cell?_of_block (Below.heap_setCell _ _ _ b h)
theorem own_base {w : World} {base : Nat} {e : TypeId} {size g cap n m : Nat} {xs : List Value} (h : w.ownsRow base e size (.slice (some ⟨g, 0, none⟩) n cap) m xs) : base ≤ g := by
  rcases h.2 with ⟨e, _⟩ | ⟨g', cap, cur, e, hb, _⟩
  · cases e
  · simp only [Value.slice.injEq, Option.some.injEq, Addr.mk.injEq] at e
    obtain ⟨⟨rfl, _⟩, _⟩ := e
    exact hb

end Go.Proofs.YtnjhbblhlgpgdaaDoor

