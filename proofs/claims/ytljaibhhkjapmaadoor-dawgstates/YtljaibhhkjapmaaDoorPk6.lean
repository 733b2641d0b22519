/- Texts that several proofs of this seat share, one behind the other: RefDecode XRow ZCell ZMap TSeq ZSeq. -/
import Derived.Test.YtljaibhhkjapmaaDoorPk5
import Derived.Test.YtljaibhhkjapmaaDoorPk4
import Derived.Lib.SliceRun
import Derived.Deep.RegionLaw
import Derived.Deep.RegionHeld3
import Derived.Test.YtljaibhhkjapmaaDoorPk2
import Derived.Test.YtljaibhhkjapmaaDoorProg
import Derived.DeepKeys4
import Derived.Maps.OwnSet
import Derived.RangeFuncNested
import Derived.RangeFuncLeaves
import Derived.Test.YtljaibhhkjapmaaDoorPk3
/- errataref01.Decode, Letters, Token: the document's answers, for every string. -/
namespace Go.Proofs.YtljaibhhkjapmaaDoor
open Go.RowKit Go.Shelf

theorem own_below {w w' : World} {base : Nat} {e : TypeId} {size n : Nat} {v : Value} {xs : List Value} (h : w.ownsRow base e size v n xs) (hb : Below w.heap.size w w') : w'.ownsRow base e size v n xs :=
  h.kept (grown_none hb) (by cases hv : v.ownBlock with
    | none => exact .inl rfl
    | some g => exact .inr (by simp))
theorem own_block {w : World} {base : Nat} {e : TypeId} {size n : Nat} {v : Value} {xs : List Value} (h : w.ownsRow base e size v n xs) : ∀ g, v.ownBlock = some g → base ≤ g := by
  intro g hg
  rcases h.2 with ⟨rfl, _⟩ | ⟨g', cap, cur, rfl, hb, _⟩
  · simp [Value.ownBlock] at hg
  · obtain rfl : g' = g := by simpa [Value.ownBlock] using hg
    exact hb
/-- The length of a string in a slot. -/
def strLen : Value → Nat | .string t => t.size | _ => 0

set_option maxRecDepth 100000 in
set_option maxHeartbeats 2000000 in
theorem refDecode_any (s : ByteArray) (w : World) (hs : s.size * 4 ≤ 140737488355328) :
    Calls Tryd.prog 46 #[.string s] w (DecPost s w) := by
  obtain ⟨L, hL⟩ : ∃ L, s.data.toList = L := ⟨_, rfl⟩
  have hLl : L.length = s.size := by rw [← hL, Lib.size_eq]
  have HL := Lib.hid hL; clear hL
  clear hLl
  go_enter Tryd.func46, Tryd.ntmps46
  go_wp2
  go_loopw [0, 4] (fun s0 s4 wr => ∃ (k : Nat) (t : ByteArray) (pre : List Int), s0 = .string t ∧ k + t.size ≤ s.size ∧ pre.length ≤ k ∧ Hid (t.data.toList = L.drop k) ∧ wr.ownsRow w.heap.size 21 1 s4 pre.length (pre.map (Value.int .i32)) ∧ Below w.heap.size w wr ∧ Hid (items L = pre ++ items (L.drop k)) ∧ Hid (Lib.validD L = Lib.validD (L.drop k))) (fun s0 _ _ => strLen s0)
  case atStart => exact ⟨0, s, [], rfl, by omega, by simp, Lib.hid (by rw [HL.out]; simp), World.ownsRow_nil _ _ _ _, Below.refl _ _, Lib.hid (by simp), Lib.hid (by simp)⟩
  case round =>
    obtain ⟨k, t, pre, rfl, hkt, hpk, HT, hrow, hB, HI, HV⟩ := hrel
    by_cases hpos : 0 < t.size
    · have C := Lib.hid (first_any t wr (by unfold maxLen; omega) hpos)
      have hne : L.drop k ≠ [] := by
        intro e
        have h1 := HT.out
        rw [e] at h1
        have h2 := Lib.size_eq t
        rw [h1, List.length_nil] at h2; omega
      have hst := items_step _ hne
      have hvt := valid_step _ hne
      rw [HT.out] at C
      have hp1 : (0 : Int) < (t.size : Int) := by omega
      cases hb : badB (L.drop k)
      · have hle := Lib.decodeL_le _ hne
        have hwd := Lib.decodeL_width (L.drop k)
        have hle2 : (Lib.decodeL (L.drop k)).2 ≤ t.size := by rw [Lib.size_eq, HT.out]; exact hle
        rw [hb] at hst hvt
        simp only [Bool.false_eq_true, if_false, List.drop_drop] at hst hvt
        have e1 : firstR (L.drop k) = ((Lib.decodeL (L.drop k)).1 : Int) := by simp [firstR, hb]
        have e2 : firstN (L.drop k) = (Lib.decodeL (L.drop k)).2 := by simp [firstN, hb]
        rw [e1, e2] at C
        obtain ⟨R, hR⟩ : ∃ R, (Lib.decodeL (L.drop k)).1 = R := ⟨_, rfl⟩
        obtain ⟨K, hK⟩ : ∃ K, (Lib.decodeL (L.drop k)).2 = K := ⟨_, rfl⟩
        rw [hR, hK] at C hst
        rw [hK] at hvt hle2 hwd
        have HS := Lib.hid hst
        have HVT := Lib.hid hvt
        clear hst hvt e1 e2 hb hle hne hR hK
        have hK0 : ((K : Int) == 0) = false := by simp; omega
        go_wp2_with fail
        refine C.out.mono ?_
        rintro e w1 ⟨rfl, hb1⟩
        have hrow1 := own_below hrow hb1
        have hB1 : Below w.heap.size w w1 := hB.trans (hb1.mono hB.size)
        have hBa : Below w1.heap.size w1 (w1.alloc (.cells #[.int .i32 (R : Int)] 21)) := (Below.refl _ _).alloc (Nat.le_refl _) _
        obtain ⟨v2, w2, hrun, hown, hg, _⟩ := append_runs _ w.heap.size _ _ _ (own_below hrow1 hBa) _ [(R : Int)] (runs_lit w1 R) (Nat.le_trans hB1.size hBa.size) (by simp; omega)
        have hB2 : Below w.heap.size w w2 := (hB1.trans (hBa.mono hB1.size)).grown hg (Nat.le_trans hB1.size hBa.size) (own_block hrow)
        have HR := Lib.hid hrun
        clear hrun
        have hsl : (K : Int) ≤ (t.size : Int) := by omega
        go_wp2_with (at_builtin; refine wpList_append_run (.tmp 17) (.tmp 19) 84 _ _ _ _ HR.out rfl rfl rfl rfl ?_)
        go_roundw
        case rel =>
          refine ⟨k + K, t.extract K t.size, pre ++ [(R : Int)], rfl, by simp; omega, by simp; omega, Lib.hid (by rw [Lib.extract_to_end, HT.out, List.drop_drop]), by simpa using hown, hB2, Lib.hid (by rw [HI.out, HS.out]; simp), Lib.hid (by rw [HV.out, HVT.out])⟩
        case measure => simp [strLen]; omega
      · rw [hb] at hst hvt
        simp only [if_true] at hst hvt
        have e1 : firstR (L.drop k) = 0 := by simp [firstR, hb]
        have e2 : firstN (L.drop k) = 0 := by simp [firstN, hb]
        rw [e1, e2] at C
        have HVT := Lib.hid hvt
        clear hst hvt e1 e2 hb hne
        go_wp2_with (go_at_call 75; refine C.out.mono ?_; rintro e w1 ⟨rfl, hb1⟩)
        go_ret2
        unfold DecPost
        rw [HL.out, HV.out, HVT.out]
        exact ⟨_, rfl, World.ownsRow_nil _ _ _ _, hB.trans (hb1.mono hB.size)⟩
    · have hz : t.size = 0 := by omega
      have hdr : L.drop k = [] := by
        have h1 := HT.out
        have h2 := Lib.size_eq t
        rw [h1, hz] at h2
        exact List.eq_nil_of_length_eq_zero h2.symm
      have HD := Lib.hid hdr
      have hp1 : ¬ (0 : Int) < (t.size : Int) := by omega
      clear hdr
      go_wp2
      go_ret2
      unfold DecPost
      rw [HL.out, HV.out, HI.out, HD.out, Lib.validD_nil, items_nil, List.append_nil]
      exact ⟨_, rfl, hrow, hB⟩

theorem refDecode_runs (s : ByteArray) (w : World) (hs : s.size * 4 ≤ 140737488355328) :
    Calls Tryd.prog 46 #[.string s] w fun e w' => ∃ A c, e = .returned (.tuple #[.slice A (decRunes s.data.toList).length c, .int .i64 (decErr s.data.toList)]) ∧ Runs w' (.slice A (decRunes s.data.toList).length c) (decRunes s.data.toList) ∧ Below w.heap.size w w' := by
  refine (refDecode_any s w hs).mono ?_
  rintro e w' ⟨v, rfl, hrow, hb⟩
  have hr : Runs w' v (decRunes s.data.toList) := Runs.of_own hrow
  have hr' := hr
  obtain ⟨A, c, rfl, _⟩ := hr'
  exact ⟨A, c, rfl, hr, hb⟩

theorem letters_bad (l : List UInt8) (h : Lib.validD l = false) : lettersB l = false := by
  have hn : ¬ ∀ x ∈ items l, x ≠ -1 := fun hh => by rw [(items_valid l).1 hh] at h; cases h
  have : ∃ x ∈ items l, x = -1 := by
    apply Classical.byContradiction
    intro hc
    exact hn (fun x hx e => hc ⟨x, hx, e⟩)
  obtain ⟨x, hx, rfl⟩ := this
  unfold lettersB
  rw [Bool.and_eq_false_iff]; right
  rw [List.all_eq_false]
  exact ⟨-1, hx, by decide⟩
theorem letters_good (l : List UInt8) : lettersB l = (decide (0 < (items l).length) && (items l).all letterB) := by
  unfold lettersB
  congr 1
  cases h : l with
  | nil => rfl
  | cons a t =>
    have : (items (a :: t)).length ≠ 0 := fun e => by
      have := (items_eq_nil (a :: t)).1 (List.eq_nil_of_length_eq_zero e); cases this
    simp; omega
theorem all_take_letters (xs : List Int) (k : Nat) (h : k < xs.length) : (xs.take (k + 1)).all letterB = ((xs.take k).all letterB && letterB (xs.getD k 0)) := by
  rw [List.take_succ_eq_append_getElem h, List.all_append, List.getD_eq_getElem?_getD, List.getElem?_eq_getElem h]
  simp
theorem all_no_letters (xs : List Int) (k : Nat) (h : k < xs.length) (hv : letterB (xs.getD k 0) = false) : xs.all letterB = false := by
  rw [List.all_eq_false]
  exact ⟨xs.getD k 0, by simp [List.getD_eq_getElem?_getD, h], fun h' => by rw [hv] at h'; cases h'⟩


set_option maxRecDepth 100000 in
set_option maxHeartbeats 1000000 in
theorem refToken_any (s : ByteArray) (w : World) (hs : s.size * 4 ≤ 140737488355328) :
    Calls Tryd.prog 118 #[.string s] w fun e w' => ∃ A c, e = .returned (.tuple #[.slice A (tokRunes s.data.toList).length c, .int .i64 (tokErr s.data.toList)]) ∧ Runs w' (.slice A (tokRunes s.data.toList).length c) (tokRunes s.data.toList) ∧ Below w.heap.size w w' := by
  have c := refDecode_runs s w hs
  cases hv : Lib.validD s.data.toList
  · have e1 : decErr s.data.toList = 3 := by simp [decErr, hv]
    have e2 : decRunes s.data.toList = [] := by simp [decRunes, hv]
    have t1 : tokErr s.data.toList = 3 := by simp [tokErr, hv]
    have t2 : tokRunes s.data.toList = [] := by simp [tokRunes, t1]
    rw [e1, e2] at c
    rw [t1, t2]
    have C := Lib.hid c
    clear c e1 e2 t1 t2 hv
    go_enter Tryd.func118, Tryd.ntmps118
    go_wp2_with fail
    refine C.out.mono ?_
    rintro e w' ⟨A, c, rfl, hr, hb⟩
    go_wp2
    go_ret2
    exact ⟨none, 0, rfl, Runs.nil_ _, hb⟩
  · have e1 : decErr s.data.toList = 0 := by simp [decErr, hv]
    have e2 : decRunes s.data.toList = items s.data.toList := by simp [decRunes, hv]
    rw [e1, e2] at c
    have t1 : tokErr s.data.toList = if (items s.data.toList).length = 0 then 4 else if 64 < (items s.data.toList).length then 5 else 0 := by simp [tokErr, hv]
    have C := Lib.hid c
    clear c e1 e2
    by_cases h0 : (items s.data.toList).length = 0
    · rw [if_pos h0] at t1
      have t2 : tokRunes s.data.toList = [] := by simp [tokRunes, t1]
      rw [t1, t2]
      rw [h0] at C
      clear t1 t2 hv h0
      go_enter Tryd.func118, Tryd.ntmps118
      go_wp2_with fail
      refine C.out.mono ?_
      rintro e w' ⟨A, c, rfl, hr, hb⟩
      go_wp2
      go_ret2
      exact ⟨none, 0, rfl, Runs.nil_ _, hb⟩
    · rw [if_neg h0] at t1
      by_cases h1 : 64 < (items s.data.toList).length
      · rw [if_pos h1] at t1
        have t2 : tokRunes s.data.toList = [] := by simp [tokRunes, t1]
        rw [t1, t2]
        obtain ⟨n, hn⟩ : ∃ n, (items s.data.toList).length = n := ⟨_, rfl⟩
        rw [hn] at C h0 h1
        have h2 : ((n : Int) == 0) = false := by simp; omega
        clear t1 t2 hv hn
        go_enter Tryd.func118, Tryd.ntmps118
        go_wp2_with fail
        refine C.out.mono ?_
        rintro e w' ⟨A, c, rfl, hr, hb⟩
        go_wp2
        go_ret2
        exact ⟨none, 0, rfl, Runs.nil_ _, hb⟩
      · rw [if_neg h1] at t1
        have t2 : tokRunes s.data.toList = items s.data.toList := by simp [tokRunes, t1]
        rw [t1, t2]
        obtain ⟨n, hn⟩ : ∃ n, (items s.data.toList).length = n := ⟨_, rfl⟩
        rw [hn] at C h0 h1 ⊢
        have h2 : ((n : Int) == 0) = false := by simp; omega
        clear t1 t2 hv hn
        go_enter Tryd.func118, Tryd.ntmps118
        go_wp2_with fail
        refine C.out.mono ?_
        rintro e w' ⟨A, c, rfl, hr, hb⟩
        go_wp2
        go_ret2
        exact ⟨A, c, rfl, hr, hb⟩
end Go.Proofs.YtljaibhhkjapmaaDoor

/- Words as cells: a slice value that reads as words; rows of the call's own; parts of slices; steps of a region that draws. -/
namespace Go.Proofs.YtljaibhhkjapmaaDoor
open Go.RowKit Go.Shelf

def wrdCell (x : Wrd) : List Value := [.string x.1, .int .i64 x.2]
abbrev WRuns (w : World) (v : Value) (l : List Wrd) : Prop := GRuns wrdCell 2 w v l
theorem wrd_cells {w : World} {b o j : Nat} {x : Wrd} {l : List Wrd} (h : ∀ j x, l[j]? = some x → ∀ i u, (wrdCell x)[i]? = some u → w.cell? ⟨b, o + j * 2 + i, none⟩ = some u) (hj : l[j]? = some x) :
    w.cell? ⟨b, o + j * 2, none⟩ = some (.string x.1) ∧ w.cell? ⟨b, o + j * 2 + 1, none⟩ = some (.int .i64 x.2) :=
  ⟨h j x hj 0 _ rfl, h j x hj 1 _ rfl⟩
theorem wrd_ln (x : Wrd) : (wrdCell x).length = 2 := rfl
theorem wrd_one (x : Wrd) : ∀ u ∈ wrdCell x, u.oneCell' = true := by
  intro u hu
  simp only [wrdCell, List.mem_cons, List.mem_nil_iff, or_false] at hu
  rcases hu with rfl | rfl <;> rfl
theorem info_wrd : (Tryd.prog.info? 72).map (fun i => (i.zero, i.size, i.bytes)) = some (some (.agg #[.string ⟨#[]⟩, .int .i64 0]), 2, 24) := by kernel_rfl
theorem cells2_new (w : World) (a b : Value) (t : TypeId) : (w.alloc (.cells #[a, b] t)).cell? ⟨w.heap.size, 0, none⟩ = some a ∧ (w.alloc (.cells #[a, b] t)).cell? ⟨w.heap.size, 1, none⟩ = some b := by
  have h := heap_alloc_new w (.cells #[a, b] t)
  refine ⟨?_, ?_⟩ <;> (rw [cell_of_row _ _ _ _ _ _ h]; rfl)
theorem bel_one (D : World) (o : Obj) : Below D.heap.size D (D.alloc o) := (Below.refl _ _).alloc (Nat.le_refl _) _
theorem bel_two (D : World) (o o' : Obj) : Below D.heap.size D ((D.alloc o).alloc o') := ((Below.refl _ _).alloc (Nat.le_refl _) _).alloc (by simp) _
theorem cell_keep {w w' : World} {p : Addr} {v : Value} (h : Below w.heap.size w w') (hc : w.cell? p = some v) : w'.cell? p = some v := (h.cell (World.block_lt_of_cell? w _ hc)).trans hc
theorem own_litW (w : World) (b : Nat) (hb : b ≤ w.heap.size) : (w.alloc (.cells #[] 72)).ownsRow b 72 2 (.slice (some ⟨w.heap.size, 0, none⟩) 0 0) 0 [] :=
  ⟨by simp, .inr ⟨w.heap.size, 0, #[], rfl, hb, heap_alloc_new w _, Nat.le_refl _, by simp [maxLen], by simp, by simp⟩⟩
theorem wrd_litR (w : World) (x : Wrd) : WRuns (w.alloc (.cells #[.string x.1, .int .i64 x.2] 72)) (.slice (some ⟨w.heap.size, 0, none⟩) 1 1) [x] := by
  have e0 := heap_alloc_new w (.cells #[.string x.1, .int .i64 x.2] 72)
  refine ⟨_, 1, rfl, Nat.le_refl _, ⟨by simp [maxLen], fun h => by cases h⟩, fun _ => ⟨w.heap.size, 0, rfl, by simp, fun j z hj i u hu => ?_⟩⟩
  obtain rfl : j = 0 := by have := (List.getElem?_eq_some_iff.1 hj).1; simpa using this
  obtain rfl : x = z := by simpa using hj
  rw [cell_of_row _ _ _ _ _ (0, 0) e0]
  simpa [wrdCell] using hu
theorem wrds_lit (D : World) (L : List Wrd) (h : L.length ≤ 1000) : WRuns (D.alloc (.cells (gCells wrdCell L).toArray 72)) (.slice (some ⟨D.heap.size, 0, none⟩) L.length L.length) L := by
  refine GRuns.of_own (base := 0) (n := L.length) wrd_ln rfl ⟨gCells_len wrd_ln L, .inr ⟨D.heap.size, L.length, (gCells wrdCell L).toArray, rfl, Nat.zero_le _, heap_alloc_new D _, Nat.le_refl _, by unfold maxLen; omega, ?_, ?_⟩⟩
  · rw [List.size_toArray, gCells_len wrd_ln]
  · show (gCells wrdCell L).take (L.length * 2) = _
    rw [List.take_of_length_le (by rw [gCells_len wrd_ln]; exact Nat.le_refl _)]
theorem make_words (w : World) (c : Nat) (hc : c ≤ 2000000) : ∃ w', (Instr.makeSlice 22 (.int .i64 0) (.int .i64 (c : Int))).run Tryd.prog w = .ok (.slice (some ⟨w.heap.size, 0, none⟩) 0 c) w' ∧
    w'.ownsRow w.heap.size 72 2 (.slice (some ⟨w.heap.size, 0, none⟩) 0 c) 0 [] ∧ w.grownBy w' none := by
  obtain ⟨i0, hi, hz0, hz1, hz2⟩ := info_parts info_wrd
  exact run_make_own w w.heap.size 22 72 i0 _ 2 Tryd.underlying22 hi hz0 hz1 .i64 .i64 c (by rw [hz2]; omega) (by unfold maxLen; omega) (Nat.le_refl _)
/-- append(v, x) to a row of words of the call's own. -/
theorem append_wrd (w : World) (base : Nat) (v : Value) (n : Nat) (pre : List Wrd) (hown : w.ownsRow base 72 2 v n (gCells wrdCell pre)) (x : Wrd) (hbase : base ≤ w.heap.size) (hlen : n ≤ 2000000) :
    ∃ v' w', (Builtin.append_ #[22, 22] 22 #[v, .slice (some ⟨w.heap.size, 0, none⟩) 1 1]).run Tryd.prog (w.alloc (.cells #[.string x.1, .int .i64 x.2] 72)) = .ok v' w' ∧
      w'.ownsRow base 72 2 v' (n + 1) (gCells wrdCell (pre ++ [x])) ∧ Below base w w' := by
  obtain ⟨v', w', hrun, h2, h3, _⟩ := append_one (P := Tryd.prog) (enc := wrdCell) (k := 2) wrd_ln wrd_one info_wrd rfl (by decide) (by decide) Tryd.underlying22 w base v n _ hown x hbase (by omega)
  exact ⟨v', w', hrun, by rw [gCells_snoc]; exact h2, ((Below.refl base w).alloc hbase _).grown h3 (by simp; omega) (fun k hk => (hown.lt k hk).1)⟩
/-- Parts of a slice. -/
theorem gr_front {α : Type} {enc : α → List Value} {k : Nat} {w : World} {A : Option Addr} {n c : Nat} {l : List α} (h : GRuns enc k w (.slice A n c) l) (hn : l.length = n) (m : Nat) (hm : m ≤ n) : GRuns enc k w (.slice A m c) (l.take m) := by
  obtain ⟨A', c', e, hc, hmx, hx⟩ := h
  rw [hn] at e hc hx
  obtain ⟨rfl, _, rfl⟩ := Value.slice.inj e
  have hl : (l.take m).length = m := by rw [List.length_take]; omega
  refine ⟨A, c, by rw [hl], by rw [hl]; omega, hmx, fun h0 => ?_⟩
  rw [hl] at h0
  obtain ⟨b, o, e2, hlt, hcell⟩ := hx (by omega)
  exact ⟨b, o, e2, hlt, fun j x hj i u hu => hcell j x (by rw [List.getElem?_take] at hj; split at hj; exact hj; cases hj) i u hu⟩
theorem gr_none {α : Type} {enc : α → List Value} {k : Nat} {w : World} {A : Option Addr} {c : Nat} (hc : c ≤ maxLen) (hA : A = none → c = 0) : GRuns enc k w (.slice A 0 c) [] := ⟨A, c, rfl, Nat.zero_le _, ⟨hc, hA⟩, fun h => absurd h (by simp)⟩
theorem gr_back {α : Type} {enc : α → List Value} {k : Nat} {w : World} {b o n c : Nat} {l : List α} (h : GRuns enc k w (.slice (some ⟨b, o, none⟩) n c) l) (hn : l.length = n) (m : Nat) (hm : m ≤ n) : GRuns enc k w (.slice (some ⟨b, o + m * k, none⟩) (n - m) (c - m)) (l.drop m) := by
  obtain ⟨A', c', e, hc, ⟨hmx, _⟩, hx⟩ := h
  rw [hn] at e hc hx
  obtain ⟨e1, _, rfl⟩ := Value.slice.inj e
  have hl : (l.drop m).length = n - m := by rw [List.length_drop]; omega
  refine ⟨some ⟨b, o + m * k, none⟩, c - m, by rw [hl], by rw [hl]; omega, ⟨by omega, fun h => by cases h⟩, fun h0 => ?_⟩
  obtain ⟨b', o', e2, hlt, hcell⟩ := hx (by omega)
  have e3 := Option.some.inj (e1.trans e2)
  simp only [Addr.mk.injEq] at e3
  obtain ⟨rfl, rfl, _⟩ := e3
  refine ⟨b, o + m * k, rfl, hlt, fun j x hj i u hu => ?_⟩
  have := hcell (m + j) x (by rwa [List.getElem?_drop] at hj) i u hu
  rwa [show o + (m + j) * k + i = o + m * k + j * k + i by rw [Nat.add_mul]; omega] at this
theorem gr_cap {α : Type} {enc : α → List Value} {k : Nat} {w : World} {A : Option Addr} {n c : Nat} {l : List α} (h : GRuns enc k w (.slice A n c) l) : n ≤ c ∧ c ≤ maxLen ∧ (A = none → c = 0) := by
  obtain ⟨A', c', e, hc, ⟨hmx, h0⟩, _⟩ := h
  obtain ⟨rfl, rfl, rfl⟩ := Value.slice.inj e
  exact ⟨hc, hmx, h0⟩
/-- A row that is kept where another block is turned. -/
theorem gr_aside {α : Type} {enc : α → List Value} {k : Nat} {w w' : World} {b o n c : Nat} {l : List α} {row : Option Nat} (h : GRuns enc k w (.slice (some ⟨b, o, none⟩) n c) l) (hg : w.grownBy w' row) (hne : some b ≠ row) : GRuns enc k w' (.slice (some ⟨b, o, none⟩) n c) l := by
  obtain ⟨A, c', e, hc, hm, hx⟩ := h
  refine ⟨A, c', e, hc, hm, fun h0 => ?_⟩
  obtain ⟨b', o', e2, hlt, hcell⟩ := hx h0
  obtain ⟨e1, _, _⟩ := Value.slice.inj e
  have e3 := Option.some.inj (e1.trans e2)
  simp only [Addr.mk.injEq] at e3
  obtain ⟨rfl, rfl, _⟩ := e3
  exact ⟨b, o, e2, Nat.lt_of_lt_of_le hlt hg.size, fun j x hj i u hu => (World.cell?_of_block (hg.block b hlt hne)).trans (hcell j x hj i u hu)⟩
/-- A call of a Go function of one argument, as one step of a region that draws its order. -/
theorem xstep_call {P : Program} {ops : Array Oper} {o : Oper} {a : Act} {w : World} {K : Act → World → Prop} {Q : Exit → Act → World → Prop} {E : Prop} (hgd : o.guard = none) (f : Nat) (x : Operand) (t : TypeId) (hop : o.op = .call { callee := .value (.func f), args := #[x], argTypes := #[t] })
    (eg : ∀ args w, (callFunc f args).run P w = .ok (.enter f args) w) {u : Value} (hx : a.eval x = u) {Post : Ending → World → Prop} (hc : Calls P f #[u] w Post) (h : ∀ e w', Post e w' → ∃ v, e = .returned v ∧ K (a.put o.dst v) w') :
    if Region.wanted o (yielded ops a.tmps) = true then Oper.wp P o a w K Q else E := by
  have hw : Region.wanted o (yielded ops a.tmps) = true := by simp [Region.wanted, hgd]
  rw [if_pos hw]
  unfold Oper.wp
  have he : (execOp a.eval o).run P w = .ok (.enter f #[u]) w := by
    have hf : a.eval (.func f) = .func (.func f) #[] #[] := rfl
    simp [execOp, hop, resolve, invoke, Deferred.ofValue, hf, hx, eg, Result.andThen]
  rw [he, Oper.upon_enter]
  refine hc.mono ?_
  intro e w' hp
  obtain ⟨v, rfl, hk⟩ := h e w' hp
  exact hk
/-- Of two arguments. -/
theorem xstep_call2 {P : Program} {ops : Array Oper} {o : Oper} {a : Act} {w : World} {K : Act → World → Prop} {Q : Exit → Act → World → Prop} {E : Prop} (hgd : o.guard = none) (f : Nat) (x y : Operand) (t t' : TypeId) (hop : o.op = .call { callee := .value (.func f), args := #[x, y], argTypes := #[t, t'] })
    (eg : ∀ args w, (callFunc f args).run P w = .ok (.enter f args) w) {u u' : Value} (hx : a.eval x = u) (hy : a.eval y = u') {Post : Ending → World → Prop} (hc : Calls P f #[u, u'] w Post) (h : ∀ e w', Post e w' → ∃ v, e = .returned v ∧ K (a.put o.dst v) w') :
    if Region.wanted o (yielded ops a.tmps) = true then Oper.wp P o a w K Q else E := by
  have hw : Region.wanted o (yielded ops a.tmps) = true := by simp [Region.wanted, hgd]
  rw [if_pos hw]
  unfold Oper.wp
  have he : (execOp a.eval o).run P w = .ok (.enter f #[u, u']) w := by
    have hf : a.eval (.func f) = .func (.func f) #[] #[] := rfl
    simp [execOp, hop, resolve, invoke, Deferred.ofValue, hf, hx, hy, eg, Result.andThen]
  rw [he, Oper.upon_enter]
  refine hc.mono ?_
  intro e w' hp
  obtain ⟨v, rfl, hk⟩ := h e w' hp
  exact hk
theorem xstep_append {P : Program} {ops : Array Oper} {o : Oper} {a : Act} {w : World} {K : Act → World → Prop} {Q : Exit → Act → World → Prop} {E : Prop} (hgd : o.guard = none) (s x : Operand) (t : TypeId) (v u v' : Value) (w' : World)
    (ho : o.op = .call { callee := .builtin .append, args := #[s, x], argTypes := #[t, t] }) (hrun : (Builtin.append_ #[t, t] o.type #[v, u]).run P w = .ok v' w') (hs : a.eval s = v) (hx : a.eval x = u)
    (h : K (a.put o.dst v') w') : if Region.wanted o (yielded ops a.tmps) = true then Oper.wp P o a w K Q else E := by
  have hw : Region.wanted o (yielded ops a.tmps) = true := by simp [Region.wanted, hgd]
  rw [if_pos hw]
  unfold Oper.wp
  simp [execOp, ho, resolve, invoke, builtin, hs, hx, hrun, Result.andThen]
  exact h
/-- An append of words onto an owned row, as one step of such a region. -/
theorem xstep_words {ops : Array Oper} {o : Oper} {a : Act} {w : World} {K : Act → World → Prop} {Q : Exit → Act → World → Prop} {E : Prop} (hgd : o.guard = none) (s x : Operand) (base n : Nat) (xs : List Value) (ys : List Wrd) {v u : Value}
    (hown : w.ownsRow base 72 2 v n xs) (hu : WRuns w u ys) (ho : o.op = .call { callee := .builtin .append, args := #[s, x], argTypes := #[22, 22] }) (hty : o.type = 22) (hs : a.eval s = v) (hx : a.eval x = u)
    (hbase : base ≤ w.heap.size) (hlen : (n + ys.length) * 24 ≤ 140737488355328)
    (h : ∀ v' w', w'.ownsRow base 72 2 v' (n + ys.length) (xs ++ gCells wrdCell ys) → w.grownBy w' v.ownBlock → (v'.ownBlock = v.ownBlock ∨ v'.ownBlock = some w.heap.size) → K (a.put o.dst v') w') : if Region.wanted o (yielded ops a.tmps) = true then Oper.wp Tryd.prog o a w K Q else E := by
  obtain ⟨v', w', hrun, h2, h3, h4⟩ := append_many (P := Tryd.prog) wrd_ln wrd_one info_wrd rfl (by decide) (by decide) Tryd.underlying22 w base v n xs hown u ys hu hbase hlen
  exact xstep_append hgd s x _ v u v' w' ho (by rw [hty]; exact hrun) hs hx (h v' w' h2 h3 h4)
end Go.Proofs.YtljaibhhkjapmaaDoor

/- Layer 10: what the code of dawg lays, as cells: open states, frozen states, states and edges; rows of them. -/
namespace Go.Proofs.YtljaibhhkjapmaaDoor
open Go.RowKit Go.Shelf

def opCell (p : Nat × Int) : List Value := [.int .i32 (p.1 : Int), .int .i32 p.2]
def fzCell (f : Fz) : List Value := [.int .i32 (f.1.1 : Int), .int .i32 f.1.2.1, .int .i32 (f.1.2.2 : Int), .int .i32 (f.2.1 : Int), .bool f.2.2]
def edCell (e : Edg) : List Value := [.int .i32 e.1, .int .i32 (e.2.1 : Int), .int .i32 (e.2.2 : Int)]
def stCell (s : StaL) : List Value := [.int .i32 (s.1 : Int), .int .i32 (s.2.1 : Int), .bool s.2.2]
def nmCell (n : Nat) : List Value := [.int .i32 (n : Int)]
theorem op_ln (x : Nat × Int) : (opCell x).length = 2 := rfl
theorem fz_ln (x : Fz) : (fzCell x).length = 5 := rfl
theorem ed_ln (x : Edg) : (edCell x).length = 3 := rfl
theorem st_ln (x : StaL) : (stCell x).length = 3 := rfl
theorem nm_ln (x : Nat) : (nmCell x).length = 1 := rfl
theorem op_one (x : Nat × Int) : ∀ u ∈ opCell x, u.oneCell' = true := by
  intro u hu
  simp only [opCell, List.mem_cons, List.mem_nil_iff, or_false] at hu
  rcases hu with rfl | rfl <;> rfl
theorem fz_one (x : Fz) : ∀ u ∈ fzCell x, u.oneCell' = true := by
  intro u hu
  simp only [fzCell, List.mem_cons, List.mem_nil_iff, or_false] at hu
  rcases hu with rfl | rfl | rfl | rfl | rfl <;> rfl
theorem ed_one (x : Edg) : ∀ u ∈ edCell x, u.oneCell' = true := by
  intro u hu
  simp only [edCell, List.mem_cons, List.mem_nil_iff, or_false] at hu
  rcases hu with rfl | rfl | rfl <;> rfl
theorem st_one (x : StaL) : ∀ u ∈ stCell x, u.oneCell' = true := by
  intro u hu
  simp only [stCell, List.mem_cons, List.mem_nil_iff, or_false] at hu
  rcases hu with rfl | rfl | rfl <;> rfl
theorem nm_one (x : Nat) : ∀ u ∈ nmCell x, u.oneCell' = true := by
  intro u hu
  simp only [nmCell, List.mem_cons, List.mem_nil_iff, or_false] at hu
  rcases hu with rfl
  rfl
theorem info_op : (Tryd.prog.info? 136).map (fun i => (i.zero, i.size, i.bytes)) = some (some (.agg #[.int .i32 0, .int .i32 0]), 2, 8) := by kernel_rfl
theorem info_fz : (Tryd.prog.info? 141).map (fun i => (i.zero, i.size, i.bytes)) = some (some (.agg #[.int .i32 0, .int .i32 0, .int .i32 0, .int .i32 0, .bool false]), 5, 20) := by kernel_rfl
theorem info_ed : (Tryd.prog.info? 95).map (fun i => (i.zero, i.size, i.bytes)) = some (some (.agg #[.int .i32 0, .int .i32 0, .int .i32 0]), 3, 12) := by kernel_rfl
theorem info_st : (Tryd.prog.info? 92).map (fun i => (i.zero, i.size, i.bytes)) = some (some (.agg #[.int .i32 0, .int .i32 0, .bool false]), 3, 12) := by kernel_rfl
abbrev OpOwn (w : World) (b0 : Nat) (v : Value) (l : List (Nat × Int)) : Prop := w.ownsRow b0 136 2 v l.length (gCells opCell l)
abbrev FzOwn (w : World) (b0 : Nat) (v : Value) (l : List Fz) : Prop := w.ownsRow b0 141 5 v l.length (gCells fzCell l)
abbrev EdOwn (w : World) (b0 : Nat) (v : Value) (l : List Edg) : Prop := w.ownsRow b0 95 3 v l.length (gCells edCell l)
abbrev StOwn (w : World) (b0 : Nat) (v : Value) (l : List StaL) : Prop := w.ownsRow b0 92 3 v l.length (gCells stCell l)
end Go.Proofs.YtljaibhhkjapmaaDoor

/- The map from tails to frozen states: its keys, what it reads as, one tail more. -/
namespace Go.Proofs.YtljaibhhkjapmaaDoor
open Go.RowKit
set_option linter.unusedSimpArgs false
set_option linter.unusedVariables false

theorem laidOut10 : laidOutB Tryd.prog = true := by kernel_rfl
theorem tail_law : WideMaps.KeyLaw Tryd.prog 139 := deep_law_laid (P := Tryd.prog) laidOut10 (m := 3) (by decide) (of_decide_eq_true (by kernel_rfl)) (by kernel_rfl) (by kernel_rfl)
theorem tail_keyed : Maps.Keyed Tryd.prog 139 := Maps.Keyed.of_law tail_law
/-- What a tail reads as, as a key. -/
def keyT (a b c : Int) : Lit := .string (keyBytes [.int .i32 a, .int .i32 b, .int .i32 c])
theorem klit_t32 (d : Nat) (n : Int) (h : (Lit.int .i32 n).wf = true) : Tryd.prog.keyLits (d + 1) 21 [.int .i32 n] = some [.int .i32 n] := by
  simp [Program.keyLits, Tryd.underlying21, h]
theorem cellsT32 : Tryd.prog.cellsOf 21 = 1 := by kernel_rfl
theorem cellsTail : Tryd.prog.cellsOf 139 = 3 := by kernel_rfl
theorem keyTypeTail : Tryd.prog.keyType 139 = true := by kernel_rfl
theorem typesSizeT : ∃ d, Tryd.prog.types.size + 1 = d + 1 + 1 := ⟨Tryd.prog.types.size - 1, by
  have h : 1 ≤ Tryd.prog.types.size := by
    have : 139 < Tryd.prog.types.size := of_decide_eq_true (by kernel_rfl)
    omega
  omega⟩
theorem klit_tail (d : Nat) (a b c : Int) (ha : (Lit.int .i32 a).wf = true) (hb : (Lit.int .i32 b).wf = true) (hc : (Lit.int .i32 c).wf = true) :
    Tryd.prog.keyLits (d + 1 + 1) 139 [.int .i32 a, .int .i32 b, .int .i32 c] = some [.int .i32 a, .int .i32 b, .int .i32 c] := by
  conv => lhs; unfold Program.keyLits
  simp [Tryd.underlying139, cellsTail, cellsT32, klit_t32 d a ha, klit_t32 d b hb, klit_t32 d c hc]
theorem keyOf_tail (a b c : Int) (ha : (Lit.int .i32 a).wf = true) (hb : (Lit.int .i32 b).wf = true) (hc : (Lit.int .i32 c).wf = true) : keyOf Tryd.prog 139 (.agg #[.int .i32 a, .int .i32 b, .int .i32 c]) = some (keyT a b c) := by
  obtain ⟨d, hd⟩ := typesSizeT
  unfold keyOf
  rw [Tryd.underlying139]
  simp only [keyTypeTail, Bool.true_and]
  rw [if_pos (by simp [Value.formed, Tryd.underlying139, cellsTail]), hd]
  show Option.map _ (Tryd.prog.keyLits (d + 1 + 1) 139 [.int .i32 a, .int .i32 b, .int .i32 c]) = _
  rw [klit_tail d a b c ha hb hc]
  rfl
theorem keyT_inj {a b c a' b' c' : Int} (ha : (Lit.int .i32 a).wf = true) (hb : (Lit.int .i32 b).wf = true) (hc : (Lit.int .i32 c).wf = true) (ha' : (Lit.int .i32 a').wf = true) (hb' : (Lit.int .i32 b').wf = true) (hc' : (Lit.int .i32 c').wf = true)
    (h : keyT a b c = keyT a' b' c') : a = a' ∧ b = b' ∧ c = c' := by
  have h1 := keyOf_tail a b c ha hb hc
  rw [h] at h1
  have := tail_keyed.inj h1 (keyOf_tail a' b' c' ha' hb' hc')
  simpa using this
theorem keyT_isKey (a b c : Int) : WideAt.IsKeyLit (keyT a b c) := trivial
theorem wf32 {n : Int} (h1 : -2147483648 ≤ n) (h2 : n ≤ 2147483647) : (Lit.int .i32 n).wf = true := by
  exact WalkArith.wf_i32 ⟨h1, h2⟩
/-- A tail of numbers that the code may hold. -/
def TlR (t : Tl) : Prop := t.1 ≤ 2000000000 ∧ -2147483648 ≤ t.2.1 ∧ t.2.1 ≤ 2147483647 ∧ t.2.2 ≤ 2000000000
def keyTl (t : Tl) : Lit := keyT (t.1 : Int) t.2.1 (t.2.2 : Int)
theorem keyTl_inj {t u : Tl} (ht : TlR t) (hu : TlR u) (h : keyTl t = keyTl u) : t = u := by
  obtain ⟨a, b, c, d⟩ := ht
  obtain ⟨a', b', c', d'⟩ := hu
  obtain ⟨e1, e2, e3⟩ := keyT_inj (wf32 (by omega) (by omega)) (wf32 b c) (wf32 (by omega) (by omega)) (wf32 (by omega) (by omega)) (wf32 b' c') (wf32 (by omega) (by omega)) h
  obtain ⟨t1, t2, t3⟩ := t
  obtain ⟨u1, u2, u3⟩ := u
  simp only at e1 e2 e3
  rw [show t1 = u1 by omega, e2, show t3 = u3 by omega]
theorem keyOf_tl {t : Tl} (ht : TlR t) : keyOf Tryd.prog 139 (.agg #[.int .i32 (t.1 : Int), .int .i32 t.2.1, .int .i32 (t.2.2 : Int)]) = some (keyTl t) := by
  obtain ⟨a, b, c, d⟩ := ht
  exact keyOf_tail _ _ _ (wf32 (by omega) (by omega)) (wf32 b c) (wf32 (by omega) (by omega))
abbrev TlMap (w : World) (m n : Nat) (D : DataW Unit) : Prop := w.ownsMap Tryd.prog 139 (plainElem Tryd.prog 21) m n D
/-- What the map reads as: where each tail's state lies. -/
structure ViewT (D : DataW Unit) (F : List Fz) : Prop where
  there : ∀ (n : Nat) (f : Fz), 2 ≤ n → F[n]? = some f → ∀ z, D.atKey (keyTl f.1) z = .lit (.int .i32 (n : Int))
  gone : ∀ t : Tl, TlR t → (∀ (n : Nat) (f : Fz), 2 ≤ n → F[n]? = some f → f.1 ≠ t) → ∀ z, D.atKey (keyTl t) z = z
theorem ViewT.none_ : ViewT (.map []) fz0 := by
  refine ⟨fun n f hn h => ?_, fun t _ _ z => rfl⟩
  match n, hn, h with
  | n + 2, _, h => cases h
theorem ViewT.put {D : DataW Unit} {F : List Fz} (h : ViewT D F) (hD : Maps.IsMap D) (h2 : 2 ≤ F.length) (hR : ∀ f ∈ F, TlR f.1) {f : Fz} (hf : TlR f.1) (hnew : ∀ (n : Nat) (g : Fz), 2 ≤ n → F[n]? = some g → g.1 ≠ f.1) :
    ViewT (D.put (keyTl f.1) (.lit (.int .i32 (F.length : Int)))) (F ++ [f]) := by
  refine ⟨fun n g hn hg z => ?_, fun t ht hno z => ?_⟩
  · by_cases hl : n < F.length
    · rw [List.getElem?_append_left hl] at hg
      have hne : keyTl g.1 ≠ keyTl f.1 := fun e => hnew n g hn hg (keyTl_inj (hR g (List.mem_of_getElem? hg)) hf e)
      rw [Maps.atKey_put_other hne]
      exact h.there n g hn hg z
    · have hl2 := (List.getElem?_eq_some_iff.1 hg).1
      simp only [List.length_append, List.length_cons, List.length_nil] at hl2
      obtain rfl : n = F.length := by omega
      rw [List.getElem?_append_right (Nat.le_refl _), Nat.sub_self] at hg
      obtain rfl := Option.some.inj hg
      exact Maps.atKey_put_same hD (keyT_isKey _ _ _) _ _
  · have hne : keyTl t ≠ keyTl f.1 := fun e => hno F.length f h2 (by simp) (keyTl_inj ht hf e).symm
    rw [Maps.atKey_put_other hne]
    exact h.gone t ht (fun n g hn hg => hno n g hn (by rw [List.getElem?_append_left (List.getElem?_eq_some_iff.1 hg).1]; exact hg)) z
theorem zero_i32 (w : World) : (zeroValue 21).run Tryd.prog w = .ok (.int .i32 0) w := by kernel_rfl
/-- known[t], as it is run: found. -/
theorem TlMap.found {w : World} {mb k : Nat} {D : DataW Unit} {F : List Fz} (h : TlMap w mb k D) (hv : ViewT D F) {n : Nat} {f : Fz} (hn : 2 ≤ n) (hf : F[n]? = some f) (hR : TlR f.1) :
    (Instr.lookup 143 (.map (some mb)) (.agg #[.int .i32 (f.1.1 : Int), .int .i32 f.1.2.1, .int .i32 (f.1.2.2 : Int)]) true).run Tryd.prog w = .ok (.tuple #[.int .i32 (n : Int), .bool true]) w := by
  have hat := hv.there n f hn hf
  obtain ⟨es, clock, hb, F', _, rfl⟩ := h
  rcases Maps.fit_look true tail_keyed Tryd.underlying143 (zero_i32 w) hb F' (keyOf_tl hR) with ⟨hrun, _, h2⟩ | ⟨e0, y, _, _, hrun, hRv, h2, _⟩
  · have := (h2 (.lit (.bool true))).symm.trans (hat _)
    cases this
  · have := (h2 (.lit (.bool true))).symm.trans (hat _)
    obtain ⟨c, e1, e2, _⟩ := plainElem_int_inv Tryd.underlying21 hRv
    rw [e2] at this
    have e3 : c = (n : Int) := by simpa using this
    rw [hrun, e1, e3]
    rfl
/-- known[t], as it is run: not there. -/
theorem TlMap.gone {w : World} {mb k : Nat} {D : DataW Unit} {F : List Fz} (h : TlMap w mb k D) (hv : ViewT D F) {t : Tl} (hR : TlR t) (hno : ∀ (n : Nat) (f : Fz), 2 ≤ n → F[n]? = some f → f.1 ≠ t) :
    (Instr.lookup 143 (.map (some mb)) (.agg #[.int .i32 (t.1 : Int), .int .i32 t.2.1, .int .i32 (t.2.2 : Int)]) true).run Tryd.prog w = .ok (.tuple #[.int .i32 0, .bool false]) w := by
  have hat := hv.gone t hR hno
  obtain ⟨es, clock, hb, F', _, rfl⟩ := h
  rcases Maps.fit_look true tail_keyed Tryd.underlying143 (zero_i32 w) hb F' (keyOf_tl hR) with ⟨hrun, _, h2⟩ | ⟨e0, y, _, _, hrun, hRv, h2, _⟩
  · rw [hrun]; rfl
  · have := (h2 (.lit (.bool true))).symm.trans (hat _)
    obtain ⟨c, e1, e2, _⟩ := plainElem_int_inv Tryd.underlying21 hRv
    rw [e2] at this
    cases this
/-- known[t] = n, as it is run. -/
theorem TlMap.set {w : World} {mb k : Nat} {D : DataW Unit} {F : List Fz} (h : TlMap w mb k D) (hv : ViewT D F) (hk : k ≤ 1000000000) (hl : F.length ≤ 1000000000) (h2 : 2 ≤ F.length) (hR : ∀ f ∈ F, TlR f.1) {f : Fz} (hf : TlR f.1) (hnew : ∀ (n : Nat) (g : Fz), 2 ≤ n → F[n]? = some g → g.1 ≠ f.1) :
    ∃ w' D', (Instr.mapUpdate 143 (.map (some mb)) (.agg #[.int .i32 (f.1.1 : Int), .int .i32 f.1.2.1, .int .i32 (f.1.2.2 : Int)]) (.int .i32 (F.length : Int))).run Tryd.prog w = .ok () w' ∧ TlMap w' mb (k + 1) D' ∧ ViewT D' (F ++ [f]) ∧ w.grownBy w' (some mb) := by
  obtain ⟨w', hrun, h3, h4⟩ := h.update (t := 143) (e := 21) tail_keyed Tryd.underlying143 (by unfold maxLen; omega) (keyOf_tl hf) (plainElem_int Tryd.underlying21 (wf32 (n := (F.length : Int)) (by omega) (by omega)))
  exact ⟨w', _, hrun, h3, hv.put h.isMap h2 hR hf hnew, h4⟩
theorem TlMap.made (w : World) : TlMap (w.alloc (.map #[] 0)) w.heap.size 0 (.map []) := World.ownsMap_made w Tryd.prog 139 (plainElem Tryd.prog 21)
end Go.Proofs.YtljaibhhkjapmaaDoor

/- A loop over an iterator that itself loops over another one and hands its elements on: what such an iterator promises, and the law of the loop over it. -/
namespace Go.Proofs.YtljaibhhkjapmaaDoor
open Go.RowKit Go.Shelf

/-- What such an iterator does between two rounds: whatever lay below B lies as it lay; of what lies from B on it turns its own two boxes and what holds no cells. -/
def Priv (B : Nat) (W1 W2 : World) : Prop := Below B W1 W2 ∧ ∀ k o, B + 2 ≤ k → W1.heap[k]? = some o → o.isCells = true → W2.heap[k]? = some o
theorem Priv.of_below {B : Nat} {W1 W2 : World} (h : Below W1.heap.size W1 W2) (hB : B ≤ W1.heap.size) : Priv B W1 W2 :=
  ⟨h.mono hB, fun k _ _ hk _ => (h.block k (Array.getElem?_eq_some_iff.1 hk).1).trans hk⟩
theorem Priv.of_grown {B : Nat} {W1 W2 : World} {row : Option Nat} (h : W1.grownBy W2 row) (hr : ∀ r, row = some r → B + 2 ≤ r ∧ ∃ o : Obj, W1.heap[r]? = some o ∧ o.isCells = false) (hB : B ≤ W1.heap.size) : Priv B W1 W2 :=
  ⟨⟨h.os, h.tape, h.output, h.size, fun k hk => h.block k (Nat.lt_of_lt_of_le hk hB) (fun e => by have := (hr k e.symm).1; omega)⟩,
   fun k _ _ hk ho => (h.block k (Array.getElem?_eq_some_iff.1 hk).1 (fun e => by
     obtain ⟨_, o', ho', hc⟩ := hr k e.symm
     rw [hk] at ho'; cases ho'; rw [ho] at hc; cases hc)).trans hk⟩

/-- The two boxes are kept. -/
def KeepsTwo (B : Nat) (W W' : World) : Prop := ∀ k, B ≤ k → k < B + 2 → W'.heap[k]? = W.heap[k]?

/-- The contract of such an iterator, where no round leaves early. -/
def SeqT {α : Type} (n : Nat) (P : Program) (g : Nat) (lb : Array Value) (encs : α → Array Value) (Kp : World → World → Prop) (S : List α → Prop) (N : Nat) (w : World) : Prop :=
  ∀ (l : Nat) (J : List α → World → Prop) (W : World), Below w.heap.size w W → (∀ pre W1 W2, J pre W1 → W.heap.size ≤ W1.heap.size → Priv W.heap.size W1 W2 → J pre W2) →
    (∀ pre x W1, J pre W1 → pre.length < N → W.heap.size + 2 ≤ W1.heap.size → YieldAt Fence.wide (n - 1) P l (encs x) W1 fun e W' =>
      e = .returned (.bool true) ∧ J (pre ++ [x]) W' ∧ Kp W1 W' ∧ KeepsFrom W.heap.size W1 W' ∧ KeepsTwo W.heap.size W1 W') →
    J [] W →
    CallsIn Fence.wide n P g (#[.func (.yield l) #[] #[]] ++ lb) W fun e W' => (∃ v, e = .returned v) ∧ ∃ xs, S xs ∧ J xs W'

theorem yield_deep {m m' l l' : Nat} {P : Program} {args : Array Value} {W : World} {R : Ending → World → Prop} (h : YieldAt Fence.wide m P l args W R) : YieldAt (Fence.wide.inRound l') m' P l args W R := by
  obtain ⟨fn, tmps, assign, body, hy, hR⟩ := h
  exact ⟨fn, tmps, assign, body, hy, hR.1, fun c cs _ => hR.2 c cs (room_wide _)⟩

/-- How the body of a round is left. -/
def privPost {α : Type} (b : Nat) (Kp : World → World → Prop) (I : List α → World → Prop) (xs : List α) (W : World) : Exit → Act → World → Prop
  | .normal, _, W' => KeepsFrom b W W' ∧ KeepsTwo (b + 2) W W' ∧ Kp W W' ∧ I xs W'
  | _, _, _ => False

theorem wp_range_priv {α : Type} {n : Nat} {P : Program} {g : Operand} {ps : Array Tmp} {assign body : Code} {Q : Exit → Act → World → Prop} {a : Act} {w : World}
    (h1 : 1 ≤ n) {gf : Nat} {lb : Array Value} (hg : a.eval g = .func (.func gf) #[] lb) (eg : ∀ args w, (callFunc gf args).run P w = .ok (.enter gf args) w)
    {encs : α → Array Value} {Kp : World → World → Prop} {S : List α → Prop} {N : Nat} {w0 : World} (hseq : SeqT (n - 1) P gf lb encs Kp S N w0)
    (hKt : ∀ {A B C : World}, Kp A B → Kp B C → Kp A C) (hKb : ∀ (W : World) (l : Nat) (o o' : Obj), w.heap.size ≤ l → W.heap[l]? = some o → o.isCells = false → o.isWalk = false → Kp W (W.putObj l o')) (hb0 : Below w0.heap.size w0 w) (hps : ∀ x, (encs x).size = ps.size)
    (I : List α → World → Prop) (hI : OwnFrom w.heap.size I) (hIp : ∀ pre W1 W2, I pre W1 → w.heap.size + 2 ≤ W1.heap.size → Priv (w.heap.size + 2) W1 W2 → I pre W2) (h0 : I [] w) (a₁ : α → Act)
    (hassign : ∀ (l : Nat) (x : α) (W : World) (K : Act → World → Prop), K (a₁ x) W →
      assign.wpIn (Fence.wide.inRound l) (n - 1 - 1) P (Exit.then K (fun _ _ _ => False)) { tmps := (ps.zip (encs x)).foldl (fun t (p, v) => t.setIfInBounds p v) a.tmps, defers := [] } W)
    (hbody : ∀ (l : Nat) (pre : List α) (x : α) (W : World), w.heap.size + 4 ≤ W.heap.size → I pre W → pre.length < N → body.wpIn (Fence.wide.inRound l) (n - 1 - 1) P (privPost w.heap.size Kp I (pre ++ [x]) W) (a₁ x) W)
    (hdone : ∀ (D : Nat) (xs : List α) (W : World), w.heap.size ≤ D → S xs → I xs W → W.heap[D]? = some (.deferred (some [])) → Q .normal { a with defers := { target := .collected D, args := #[] } :: a.defers } W) :
    (Code.rangeFunc g ps assign body).wpIn Fence.wide n P Q a w := by
  refine wpIn_rangeFunc fun fn hfn => ?_
  obtain ⟨b, hb⟩ : ∃ b, w.heap.size = b := ⟨_, rfl⟩
  obtain ⟨rc, hrc⟩ : ∃ rc : LoopState → Loop, rc = fun st => { state := st, pending := none, fn, tmps := a.tmps, params := ps, assign, body, defers := b } := ⟨_, rfl⟩
  obtain ⟨V, hV⟩ : ∃ V, (w.alloc (.deferred (some []))).alloc (.loop (rc .ready)) = V := ⟨_, rfl⟩
  have hVs : V.heap.size = b + 2 := by rw [← hV]; simp [hb]
  have hL : V.heap[b + 1]? = some (.loop (rc .ready)) := by
    rw [← hV]; have := World.alloc_heap_new (w.alloc (.deferred (some []))) (.loop (rc .ready)); rwa [World.size_alloc, hb] at this
  have hD : V.heap[b]? = some (.deferred (some [])) := by
    rw [← hV, ← hb]; exact (Below.heap_alloc _ _ _ (by simp)).trans (World.alloc_heap_new w _)
  have hI0 : I [] V := by rw [← hV]; exact hI.alloc _ (hI.alloc _ h0)
  have hbV : Below w0.heap.size w0 V := by
    rw [← hV]; exact hb0.trans ((((Below.refl _ w).alloc (Nat.le_refl _) _).alloc (by simp) _).mono hb0.size)
  rw [hb] at hKb hI hIp hbody hdone
  refine ⟨b + 1, [{ target := .collected b, args := #[] }], V, { target := .fn (.func gf) lb, args := #[.func (.yield (b + 1)) #[] #[]] }, V, gf, #[.func (.yield (b + 1)) #[] #[]] ++ lb, V, ?_, ?_, ?_, ?_, fun _ => h1, ?_⟩
  · rw [← hV, hrc, ← hb]; exact run_enterLoop_outer _ _ _ _ _
  · simp only [resolve, hg]; simp [go_sem]
  · intro f' _; trivial
  · simp [invoke, go_sem, eg]
  refine (hseq (b + 1) (fun pre W => I pre W ∧ W.heap[b + 1]? = some (.loop (rc .ready)) ∧ W.heap[b]? = some (.deferred (some []))) V hbV
    (fun pre A B hJ hs hp => by
      rw [hVs] at hp hs
      exact ⟨hIp pre A B hJ.1 hs hp, (hp.1.block _ (by omega)).trans hJ.2.1, (hp.1.block _ (by omega)).trans hJ.2.2⟩) ?_ ⟨hI0, hL, hD⟩).mono ?_
  · rintro pre x W ⟨hi, hl, hk⟩ hlen hsz
    rw [hVs] at hsz ⊢
    have hlt : b + 1 < W.heap.size := by omega
    have hy := run_yield (P := P) (args := encs x) hl (by rw [hrc]; exact hps x)
    rw [hrc] at hy
    obtain ⟨W2, hW2⟩ : ∃ W2, W.putObj (b + 1) (.loop { rc .ready with state := .busy }) = W2 := ⟨_, rfl⟩
    have hl2 : W2.heap[b + 1]? = some (.loop { rc .ready with state := .busy }) := by rw [← hW2]; exact World.putObj_heap_same hlt
    have ho2 : ∀ k, k ≠ b + 1 → W2.heap[k]? = W.heap[k]? := fun k hne => by rw [← hW2]; exact World.putObj_heap_other hne
    have hs2 : W2.heap.size = W.heap.size := by rw [← hW2]; simp
    have hkp2 : Kp W W2 := by rw [← hW2]; exact hKb _ _ _ _ (by omega) hl rfl rfl
    have hi2 : I pre W2 := by rw [← hW2]; exact hI.putObj _ hi (by omega) hl rfl
    refine ⟨fn, _, assign, body, hy, roundIn_of_wpIn hfn (hassign _ x W _ ⟨W2, by rw [← hW2]; exact run_beginRound hl (by rw [hrc]), ?_⟩)⟩
    refine wpIn_mono (hbody _ pre x W2 (by omega) hi2 hlen) ?_
    rintro e a3 W3 hp
    cases e with
    | normal =>
      obtain ⟨hk3, ht3, hkp3, hi3⟩ := hp
      have hl3 := hk3.same _ _ (by omega) hl2 rfl
      have he := run_endRound (P := P) none hl3
      refine ⟨_, _, he, rfl, ⟨hI.putObj _ hi3 (by omega) hl3 rfl, ?_, ?_⟩, hKt (hKt hkp2 hkp3) (hKb _ _ _ _ (by omega) hl3 rfl rfl), ?_, ?_⟩
      · rw [World.putObj_heap_same (Array.getElem?_eq_some_iff.1 hl3).1, hrc]; rfl
      · exact (World.putObj_heap_other (by omega)).trans (hk3.same _ _ (Nat.le_refl _) ((ho2 b (by omega)).trans hk) rfl)
      · refine ⟨by simp; have := hk3.size; omega, fun k _ hB hk0 ho => ?_⟩
        exact (World.putObj_heap_other (by omega)).trans (hk3.same _ _ (by omega) ((ho2 k (by omega)).trans hk0) ho)
      · intro k hB1 hB2
        exact (World.putObj_heap_other (by omega)).trans ((ht3 k hB1 hB2).trans (ho2 k (by omega)))
    | ret => exact hp.elim
    | exit id => exact hp.elim
    | goto t => exact hp.elim
    | panic ch => exact hp.elim
    | outgrown => exact hp.elim
  · rintro e W2 ⟨⟨v, rfl⟩, xs, hS, hi, hl, hk⟩
    have he := run_endLoop (P := P) hl (by rw [hrc]; simp)
    refine ⟨none, _, by rw [hrc] at he; exact he, hdone _ xs _ (Nat.le_refl _) hS (hI.putObj _ hi (by omega) hl rfl) ((World.putObj_heap_other (by omega)).trans hk)⟩
end Go.Proofs.YtljaibhhkjapmaaDoor

/- A loop over an iterator that turns a box of its own (or none) between two rounds and hands a known row of elements on, where no round leaves early: its contract, and two laws. -/
namespace Go.Proofs.YtljaibhhkjapmaaDoor
open Go.RowKit Go.Shelf
set_option linter.unusedVariables false

/-- The contract of such an iterator: what it turns is its row alone, what it hands on is L. -/
def SeqB {α : Type} (n : Nat) (P : Program) (g : Nat) (lb : Array Value) (encs : α → Array Value) (L : List α) (Kp : World → World → Prop) (row : Option Nat) (w : World) : Prop :=
  ∀ (l : Nat) (J : List α → World → Prop) (W : World), Below w.heap.size w W → (∀ pre W1 W2, J pre W1 → W.heap.size ≤ W1.heap.size → W1.grownBy W2 row → J pre W2) →
    (∀ pre x W1, J pre W1 → pre ++ [x] <+: L → W.heap.size ≤ W1.heap.size → YieldAt Fence.wide (n - 1) P l (encs x) W1 fun e W' =>
      e = .returned (.bool true) ∧ J (pre ++ [x]) W' ∧ Kp W1 W' ∧ W1.heap.size ≤ W'.heap.size) →
    J [] W →
    CallsIn Fence.wide n P g (#[.func (.yield l) #[] #[]] ++ lb) W fun e W' => (∃ v, e = .returned v) ∧ J L W'
/-- How the body of a round is left. -/
def seqPost {α : Type} (b : Nat) (Kp : World → World → Prop) (I : List α → World → Prop) (xs : List α) (W : World) : Exit → Act → World → Prop
  | .normal, _, W' => KeepsFrom b W W' ∧ Kp W W' ∧ I xs W'
  | _, _, _ => False

theorem wp_range_seqB {α : Type} {n : Nat} {P : Program} {g : Operand} {ps : Array Tmp} {assign body : Code} {Q : Exit → Act → World → Prop} {a : Act} {w : World}
    (h1 : 1 ≤ n) {gf : Nat} {lb : Array Value} (hg : a.eval g = .func (.func gf) #[] lb) (eg : ∀ args w, (callFunc gf args).run P w = .ok (.enter gf args) w)
    {encs : α → Array Value} {L : List α} {Kp : World → World → Prop} {row : Option Nat} {w0 : World} (hseq : SeqB (n - 1) P gf lb encs L Kp row w0) (hrow : ∀ r, row = some r → r < w.heap.size)
    (hKt : ∀ {A B C : World}, Kp A B → Kp B C → Kp A C) (hKb : ∀ (W : World) (l : Nat) (o o' : Obj), w.heap.size ≤ l → W.heap[l]? = some o → o.isCells = false → o.isWalk = false → Kp W (W.putObj l o')) (hb0 : Below w0.heap.size w0 w) (hps : ∀ x, (encs x).size = ps.size)
    (I : List α → World → Prop) (hI : OwnFrom w.heap.size I) (hIp : ∀ pre W1 W2, I pre W1 → w.heap.size + 2 ≤ W1.heap.size → W1.grownBy W2 row → I pre W2) (h0 : I [] w) (a₁ : α → Act)
    (hassign : ∀ (l : Nat) (x : α) (W : World) (K : Act → World → Prop), K (a₁ x) W →
      assign.wpIn (Fence.wide.inRound l) (n - 1 - 1) P (Exit.then K (fun _ _ _ => False)) { tmps := (ps.zip (encs x)).foldl (fun t (p, v) => t.setIfInBounds p v) a.tmps, defers := [] } W)
    (hbody : ∀ (l : Nat) (pre : List α) (x : α) (W : World), w.heap.size + 2 ≤ W.heap.size → I pre W → pre ++ [x] <+: L → body.wpIn (Fence.wide.inRound l) (n - 1 - 1) P (seqPost w.heap.size Kp I (pre ++ [x]) W) (a₁ x) W)
    (hdone : ∀ (D : Nat) (W : World), w.heap.size ≤ D → I L W → W.heap[D]? = some (.deferred (some [])) → Q .normal { a with defers := { target := .collected D, args := #[] } :: a.defers } W) :
    (Code.rangeFunc g ps assign body).wpIn Fence.wide n P Q a w := by
  refine wpIn_rangeFunc fun fn hfn => ?_
  obtain ⟨b, hb⟩ : ∃ b, w.heap.size = b := ⟨_, rfl⟩
  obtain ⟨rc, hrc⟩ : ∃ rc : LoopState → Loop, rc = fun st => { state := st, pending := none, fn, tmps := a.tmps, params := ps, assign, body, defers := b } := ⟨_, rfl⟩
  obtain ⟨V, hV⟩ : ∃ V, (w.alloc (.deferred (some []))).alloc (.loop (rc .ready)) = V := ⟨_, rfl⟩
  have hVs : V.heap.size = b + 2 := by rw [← hV]; simp [hb]
  have hL : V.heap[b + 1]? = some (.loop (rc .ready)) := by
    rw [← hV]; have := World.alloc_heap_new (w.alloc (.deferred (some []))) (.loop (rc .ready)); rwa [World.size_alloc, hb] at this
  have hD : V.heap[b]? = some (.deferred (some [])) := by
    rw [← hV, ← hb]; exact (Below.heap_alloc _ _ _ (by simp)).trans (World.alloc_heap_new w _)
  have hI0 : I [] V := by rw [← hV]; exact hI.alloc _ (hI.alloc _ h0)
  have hbV : Below w0.heap.size w0 V := by
    rw [← hV]; exact hb0.trans ((((Below.refl _ w).alloc (Nat.le_refl _) _).alloc (by simp) _).mono hb0.size)
  rw [hb] at hKb hI hIp hbody hdone hrow
  refine ⟨b + 1, [{ target := .collected b, args := #[] }], V, { target := .fn (.func gf) lb, args := #[.func (.yield (b + 1)) #[] #[]] }, V, gf, #[.func (.yield (b + 1)) #[] #[]] ++ lb, V, ?_, ?_, ?_, ?_, fun _ => h1, ?_⟩
  · rw [← hV, hrc, ← hb]; exact run_enterLoop_outer _ _ _ _ _
  · simp only [resolve, hg]; simp [go_sem]
  · intro f' _; trivial
  · simp [invoke, go_sem, eg]
  refine (hseq (b + 1) (fun pre W => I pre W ∧ W.heap[b + 1]? = some (.loop (rc .ready)) ∧ W.heap[b]? = some (.deferred (some []))) V hbV
    (fun pre A B hJ hs hp => by
      rw [hVs] at hs
      exact ⟨hIp pre A B hJ.1 hs hp, (hp.block _ (Array.getElem?_eq_some_iff.1 hJ.2.1).1 (fun e => by have := hrow _ e.symm; omega)).trans hJ.2.1, (hp.block _ (Array.getElem?_eq_some_iff.1 hJ.2.2).1 (fun e => by have := hrow _ e.symm; omega)).trans hJ.2.2⟩) ?_ ⟨hI0, hL, hD⟩).mono ?_
  · rintro pre x W ⟨hi, hl, hk⟩ hlen hsz
    rw [hVs] at hsz
    have hlt : b + 1 < W.heap.size := by omega
    have hy := run_yield (P := P) (args := encs x) hl (by rw [hrc]; exact hps x)
    rw [hrc] at hy
    obtain ⟨W2, hW2⟩ : ∃ W2, W.putObj (b + 1) (.loop { rc .ready with state := .busy }) = W2 := ⟨_, rfl⟩
    have hl2 : W2.heap[b + 1]? = some (.loop { rc .ready with state := .busy }) := by rw [← hW2]; exact World.putObj_heap_same hlt
    have ho2 : ∀ k, k ≠ b + 1 → W2.heap[k]? = W.heap[k]? := fun k hne => by rw [← hW2]; exact World.putObj_heap_other hne
    have hs2 : W2.heap.size = W.heap.size := by rw [← hW2]; simp
    have hkp2 : Kp W W2 := by rw [← hW2]; exact hKb _ _ _ _ (by omega) hl rfl rfl
    have hi2 : I pre W2 := by rw [← hW2]; exact hI.putObj _ hi (by omega) hl rfl
    refine ⟨fn, _, assign, body, hy, roundIn_of_wpIn hfn (hassign _ x W _ ⟨W2, by rw [← hW2]; exact run_beginRound hl (by rw [hrc]), ?_⟩)⟩
    refine wpIn_mono (hbody _ pre x W2 (by omega) hi2 hlen) ?_
    rintro e a3 W3 hp
    cases e with
    | normal =>
      obtain ⟨hk3, hkp3, hi3⟩ := hp
      have hl3 := hk3.same _ _ (by omega) hl2 rfl
      have he := run_endRound (P := P) none hl3
      refine ⟨_, _, he, rfl, ⟨hI.putObj _ hi3 (by omega) hl3 rfl, ?_, ?_⟩, hKt (hKt hkp2 hkp3) (hKb _ _ _ _ (by omega) hl3 rfl rfl), ?_⟩
      · rw [World.putObj_heap_same (Array.getElem?_eq_some_iff.1 hl3).1, hrc]; rfl
      · exact (World.putObj_heap_other (by omega)).trans (hk3.same _ _ (Nat.le_refl _) ((ho2 b (by omega)).trans hk) rfl)
      · have := hk3.size; simp; omega
    | ret => exact hp.elim
    | exit id => exact hp.elim
    | goto t => exact hp.elim
    | panic ch => exact hp.elim
    | outgrown => exact hp.elim
  · rintro e W2 ⟨⟨v, rfl⟩, hi, hl, hk⟩
    have he := run_endLoop (P := P) hl (by rw [hrc]; simp)
    refine ⟨none, _, by rw [hrc] at he; exact he, hdone _ _ (Nat.le_refl _) (hI.putObj _ hi (by omega) hl rfl) ((World.putObj_heap_other (by omega)).trans hk)⟩
theorem wp_range_seqBx {α : Type} {n : Nat} {P : Program} {g : Operand} {ps : Array Tmp} {assign body : Code} {Q : Exit → Act → World → Prop} {a : Act} {w : World}
    (h1 : 1 ≤ n) {gf : Nat} {lb : Array Value} (hg : a.eval g = .func (.func gf) #[] lb) (eg : ∀ args w, (callFunc gf args).run P w = .ok (.enter gf args) w)
    {encs : α → Array Value} {L : List α} {Kp : World → World → Prop} {row : Option Nat} {w0 : World} (hseq : SeqB (n - 1) P gf lb encs L Kp row w0) (hrow : ∀ r, row = some r → r < w.heap.size)
    (hKt : ∀ {A B C : World}, Kp A B → Kp B C → Kp A C) (hKb : ∀ (W : World) (l : Nat) (o o' : Obj), w.heap.size ≤ l → W.heap[l]? = some o → o.isCells = false → o.isWalk = false → Kp W (W.putObj l o')) (hKa : ∀ (W : World) (o : Obj), w.heap.size ≤ W.heap.size → Kp W (W.alloc o)) (hb0 : Below w0.heap.size w0 w) (hps : ∀ x, (encs x).size = ps.size)
    (I : List α → World → Prop) (hI : OwnFrom w.heap.size I) (hIp : ∀ pre W1 W2, I pre W1 → w.heap.size + 2 ≤ W1.heap.size → W1.grownBy W2 row → I pre W2) (h0 : I [] w) (a₁ : α → Nat → Act) (mk : α → Obj)
    (hassign : ∀ (l : Nat) (x : α) (W : World) (K : Act → World → Prop), K (a₁ x W.heap.size) (W.alloc (mk x)) →
      assign.wpIn (Fence.wide.inRound l) (n - 1 - 1) P (Exit.then K (fun _ _ _ => False)) { tmps := (ps.zip (encs x)).foldl (fun t (p, v) => t.setIfInBounds p v) a.tmps, defers := [] } W)
    (hbody : ∀ (l : Nat) (pre : List α) (x : α) (W : World) (k : Nat), w.heap.size + 2 ≤ k → I pre W → W.heap[k]? = some (mk x) → pre ++ [x] <+: L → body.wpIn (Fence.wide.inRound l) (n - 1 - 1) P (seqPost w.heap.size Kp I (pre ++ [x]) W) (a₁ x k) W)
    (hdone : ∀ (D : Nat) (W : World), w.heap.size ≤ D → I L W → W.heap[D]? = some (.deferred (some [])) → Q .normal { a with defers := { target := .collected D, args := #[] } :: a.defers } W) :
    (Code.rangeFunc g ps assign body).wpIn Fence.wide n P Q a w := by
  refine wpIn_rangeFunc fun fn hfn => ?_
  obtain ⟨b, hb⟩ : ∃ b, w.heap.size = b := ⟨_, rfl⟩
  obtain ⟨rc, hrc⟩ : ∃ rc : LoopState → Loop, rc = fun st => { state := st, pending := none, fn, tmps := a.tmps, params := ps, assign, body, defers := b } := ⟨_, rfl⟩
  obtain ⟨V, hV⟩ : ∃ V, (w.alloc (.deferred (some []))).alloc (.loop (rc .ready)) = V := ⟨_, rfl⟩
  have hVs : V.heap.size = b + 2 := by rw [← hV]; simp [hb]
  have hL : V.heap[b + 1]? = some (.loop (rc .ready)) := by
    rw [← hV]; have := World.alloc_heap_new (w.alloc (.deferred (some []))) (.loop (rc .ready)); rwa [World.size_alloc, hb] at this
  have hD : V.heap[b]? = some (.deferred (some [])) := by
    rw [← hV, ← hb]; exact (Below.heap_alloc _ _ _ (by simp)).trans (World.alloc_heap_new w _)
  have hI0 : I [] V := by rw [← hV]; exact hI.alloc _ (hI.alloc _ h0)
  have hbV : Below w0.heap.size w0 V := by
    rw [← hV]; exact hb0.trans ((((Below.refl _ w).alloc (Nat.le_refl _) _).alloc (by simp) _).mono hb0.size)
  rw [hb] at hKb hKa hI hIp hbody hdone hrow
  refine ⟨b + 1, [{ target := .collected b, args := #[] }], V, { target := .fn (.func gf) lb, args := #[.func (.yield (b + 1)) #[] #[]] }, V, gf, #[.func (.yield (b + 1)) #[] #[]] ++ lb, V, ?_, ?_, ?_, ?_, fun _ => h1, ?_⟩
  · rw [← hV, hrc, ← hb]; exact run_enterLoop_outer _ _ _ _ _
  · simp only [resolve, hg]; simp [go_sem]
  · intro f' _; trivial
  · simp [invoke, go_sem, eg]
  refine (hseq (b + 1) (fun pre W => I pre W ∧ W.heap[b + 1]? = some (.loop (rc .ready)) ∧ W.heap[b]? = some (.deferred (some []))) V hbV
    (fun pre A B hJ hs hp => by
      rw [hVs] at hs
      exact ⟨hIp pre A B hJ.1 hs hp, (hp.block _ (Array.getElem?_eq_some_iff.1 hJ.2.1).1 (fun e => by have := hrow _ e.symm; omega)).trans hJ.2.1, (hp.block _ (Array.getElem?_eq_some_iff.1 hJ.2.2).1 (fun e => by have := hrow _ e.symm; omega)).trans hJ.2.2⟩) ?_ ⟨hI0, hL, hD⟩).mono ?_
  · rintro pre x W ⟨hi, hl, hk⟩ hlen hsz
    rw [hVs] at hsz
    have hy := run_yield (P := P) (args := encs x) hl (by rw [hrc]; exact hps x)
    rw [hrc] at hy
    obtain ⟨Wa, hWa⟩ : ∃ Wa, W.alloc (mk x) = Wa := ⟨_, rfl⟩
    have hsa : Wa.heap.size = W.heap.size + 1 := by rw [← hWa]; simp
    have hna : Wa.heap[W.heap.size]? = some (mk x) := by rw [← hWa]; exact World.alloc_heap_new W _
    have hoa : ∀ k, k < W.heap.size → Wa.heap[k]? = W.heap[k]? := fun k hk => by rw [← hWa]; exact Below.heap_alloc _ _ _ hk
    have hla : Wa.heap[b + 1]? = some (.loop (rc .ready)) := (hoa _ (by omega)).trans hl
    have hia : I pre Wa := by rw [← hWa]; exact hI.alloc _ hi
    have hkpa : Kp W Wa := by rw [← hWa]; exact hKa _ _ (by omega)
    have hlt : b + 1 < Wa.heap.size := by omega
    obtain ⟨W2, hW2⟩ : ∃ W2, Wa.putObj (b + 1) (.loop { rc .ready with state := .busy }) = W2 := ⟨_, rfl⟩
    have hl2 : W2.heap[b + 1]? = some (.loop { rc .ready with state := .busy }) := by rw [← hW2]; exact World.putObj_heap_same hlt
    have ho2 : ∀ k, k ≠ b + 1 → W2.heap[k]? = Wa.heap[k]? := fun k hne => by rw [← hW2]; exact World.putObj_heap_other hne
    have hs2 : W2.heap.size = Wa.heap.size := by rw [← hW2]; simp
    have hkp2 : Kp W W2 := hKt hkpa (by rw [← hW2]; exact hKb _ _ _ _ (by omega) hla rfl rfl)
    have hi2 : I pre W2 := by rw [← hW2]; exact hI.putObj _ hia (by omega) hla rfl
    have has := hassign (b + 1) x W
    rw [hWa] at has
    refine ⟨fn, _, assign, body, hy, roundIn_of_wpIn hfn (has _ ⟨W2, by rw [← hW2]; exact run_beginRound hla (by rw [hrc]), ?_⟩)⟩
    refine wpIn_mono (hbody _ pre x W2 W.heap.size (by omega) hi2 ((ho2 _ (by omega)).trans hna) hlen) ?_
    rintro e a3 W3 hp
    cases e with
    | normal =>
      obtain ⟨hk3, hkp3, hi3⟩ := hp
      have hl3 := hk3.same _ _ (by omega) hl2 rfl
      have he := run_endRound (P := P) none hl3
      refine ⟨_, _, he, rfl, ⟨hI.putObj _ hi3 (by omega) hl3 rfl, ?_, ?_⟩, hKt (hKt hkp2 hkp3) (hKb _ _ _ _ (by omega) hl3 rfl rfl), ?_⟩
      · rw [World.putObj_heap_same (Array.getElem?_eq_some_iff.1 hl3).1, hrc]; rfl
      · exact (World.putObj_heap_other (by omega)).trans (hk3.same _ _ (Nat.le_refl _) ((ho2 b (by omega)).trans ((hoa b (by omega)).trans hk)) rfl)
      · have := hk3.size; simp; omega
    | ret => exact hp.elim
    | exit id => exact hp.elim
    | goto t => exact hp.elim
    | panic ch => exact hp.elim
    | outgrown => exact hp.elim
  · rintro e W2 ⟨⟨v, rfl⟩, hi, hl, hk⟩
    have he := run_endLoop (P := P) hl (by rw [hrc]; simp)
    refine ⟨none, _, by rw [hrc] at he; exact he, hdone _ _ (Nat.le_refl _) (hI.putObj _ hi (by omega) hl rfl) ((World.putObj_heap_other (by omega)).trans hk)⟩
end Go.Proofs.YtljaibhhkjapmaaDoor

